import Derived.Test.YtfldcmdhneegmaaGreatDoorY40
set_option maxHeartbeats 4000000
set_option maxRecDepth 1000000
namespace Go.Proofs.YtfldcmdhneegmaaGreatDoor
open Go.RowKit Go.Lib
structure MRd (w:World)(v:Value)(L:List MV):Prop where
 row:RowAt (fun _=>True) w v 2 L.length (mCells L)
 offs:∀x∈L,IntsAt (fun _=>True) w x.2 x.1.1
theorem MOwn.rd {base:Nat}{w:World}{v:Value}{L:List MV}(h:MOwn base w v L):MRd w v L:=
 ⟨(RowAt.ofOwn h.row).mono (fun _ _ _=>trivial),fun x hx=>RowAt.mono (RowAt.ofOwn (h.offs x hx).1) (fun _ _ _=>trivial)⟩
theorem MRd.below {w w':World}{v:Value}{L:List MV}(h:MRd w v L)(hb:Below w.heap.size w w'):MRd w' v L:=⟨RowAt.below h.row hb,fun x hx=>(h.offs x hx).below hb⟩
theorem MRd.get {w:World}{ao:Option Addr}{n cap:Nat}{L:List MV}(h:MRd w (.slice ao n cap) L){i:Nat}(hi:i < L.length) :
  ∃b o,ao=some ⟨b,o,none⟩∧b < w.heap.size∧w.cell? ⟨b,o+i * 2,none⟩=some L[i].2∧w.cell? ⟨b,o+i * 2+1,none⟩=some (.int .i64 L[i].1.2):=by
 rcases h.row.2 with ⟨_,h0⟩ | ⟨b,o,cap',he,_,hb,_,_,r⟩
 ·omega
 ·cases he
  obtain⟨g0,g1⟩:=mCells_get L i hi
  refine⟨b,o,rfl,hb,by simpa using r _ _ g0,?_⟩
  have:=r _ _ g1
  rwa [← Nat.add_assoc] at this
structure MBk (base:Nat)(w:World)(v:Value)(L:List MV):Prop where
 row:w.ownsRow base 109 2 v L.length (mCells L)
 offs:∀x∈L,w.ownsRow base 3 1 x.2 x.1.1.length (intCells x.1.1)
section
variable {base base':Nat} {w w':World} {v v' vm va:Value} {L M La:List MV}
theorem MBk.nil (base:Nat)(w:World):MBk base w (.slice none 0 0) []:=⟨World.ownsRow_nil _ _ _ _,fun _ h=>(by cases h)⟩
theorem MBk.rd (h:MBk base w v L):MRd w v L:=⟨(RowAt.ofOwn h.row).mono (fun _ _ _=>trivial),fun x hx=>RowAt.mono (RowAt.ofOwn (h.offs x hx)) (fun _ _ _=>trivial)⟩
theorem MBk.mono (h:MBk base w v L)(hb:base'≤base):MBk base' w v L:=⟨own_mono h.row hb,fun x hx=>own_mono (h.offs x hx) hb⟩
theorem MBk.below (h:MBk base w v L)(hb:Below w.heap.size w w'):MBk base w' v L:=⟨own_below h.row hb,fun x hx=>own_below (h.offs x hx) hb⟩
theorem MBk.eng {eb:Nat}(h:MBk base w v L)(he:∃c fz,w.heap[eb]?=some (.cells c 159 fz))(gr:w.grownBy w' (some eb)):MBk base w' v L:=by
 obtain⟨c,fz,he⟩:=he
 exact⟨own_kept h.row he (by decide) gr,fun x hx=>own_kept (h.offs x hx) he (by decide) gr⟩
theorem MBk.other (ha:MBk base' w va La)(h:MBk base w v M)(hne:∀g,v.ownBlock=some g→va.ownBlock≠some g)(gr:w.grownBy w' v.ownBlock):MBk base' w' va La:=by
 refine⟨ha.row.kept gr ?_,fun x hx=>(ha.offs x hx).kept gr (own_other (ha.offs x hx) h.row (by decide))⟩
 cases hv:va.ownBlock with
 | none=>exact Or.inl rfl
 | some g=>exact Or.inr (fun e=>hne g e.symm hv)
theorem MBk.one (h:MBk base w v L):∀u∈mCells L,u.oneCell'=true:=by
 intro u hu
 obtain⟨y,hy,hu⟩:=List.mem_flatMap.1 hu
 obtain⟨a,c,hv⟩:=own_slice (h.offs y hy)
 simp at hu
 rcases hu with rfl | rfl
 ·rw[hv];rfl
 ·rfl
end
theorem EngNew.gat {n:Nat}{w1:World}{eb:Nat}{P:En.Pat}{W Next:Int}{R Q:List En.Ev}{B:List En.Rn}{K:Nat}{T:Int→Int}{vs vq vr:Value}{A:List RV}(h:EngNew n w1 eb ⟨P.steps,P.win,W,Next.toNat,En.sortEv Q,B⟩ vs vq vr A)(hq:Q.Perm R)(hw:En.Pw P W Next R B K T) :
  GAt (fun b=>n≤b∧b≤w1.heap.size) (w1.alloc (.cells #[.pointer (some ⟨eb,0,none⟩)] 74)) w1.heap.size eb P W Next R B K T:=by
 have n0:=hw.n0
 have hge:=h.ge
 have hlt:=lt_of_block h.blk
 have hb:Below w1.heap.size w1 (w1.alloc (.cells #[.pointer (some ⟨eb,0,none⟩)] 74)):=(Below.refl _ _).alloc (Nat.le_refl _) _
 have hs:(w1.alloc (.cells #[.pointer (some ⟨eb,0,none⟩)] 74)).heap.size=w1.heap.size+1:=by simp
 obtain⟨m,s1,s2,s3⟩:=h.row
 have hmap:=h.map
 dsimp only at s1 s2 hmap
 refine⟨fun b=>n≤b∧b < w1.heap.size,vs,vq,vr,En.sortEv Q,A,⟨heap_alloc_new w1 _,⟨?_,⟨hge,hlt⟩,?_,own_mono (own_below s2 hb) (Nat.zero_le _),?_,?_,?_,?_⟩,(En.sortEv_ord Q).heap,(En.sortEv_perm Q).trans hq,by rw[hmap];exact hw,fun b hb=>by omega,fun hb=>by omega⟩,hmap,fun b=>by omega⟩
 ·rw[hb.block eb hlt,h.blk]
  have e1:((Next.toNat:Nat):Int)=Next:=by omega
  simp only[e1]
 ·exact RowAt.below (RowAt.mono s1 (fun b h1 h2=>⟨⟨h2.1,h1⟩,h2.2.1⟩)) hb
 ·intro g hg
  obtain⟨h1,c,fz,h2⟩:=own_block s2 g hg
  exact⟨by omega,lt_of_block h2⟩
 ·intro b h1 h2
  have h3:=(own_block s2 b h2).1
  rcases s1.2 with ⟨h4,-⟩ | ⟨b',o,cap,h4,h5,-⟩
  ·rw[h4] at h1;cases h1
  ·rw[h4] at h1
   cases h1
   dsimp only at h3
   omega
 ·have hr:=RowAt.ofOwn h.runs
  refine⟨hr.1,?_⟩
  rcases hr.2 with h0 | ⟨g,o,cap,hv,h1,h2,h3,h4,h5⟩
  ·exact Or.inl h0
  ·have hv':vr.ownBlock=some g:=by rw[hv];rfl
   obtain⟨h6,c,fz,h7⟩:=own_block h.runs g hv'
   exact Or.inr ⟨g,o,cap,hv,⟨⟨h6,h2⟩,c,fz,(hb.block g h2).trans h7⟩,by omega,h3,h4,fun j u hj=>(cell_bel hb ⟨g,o+j,none⟩ h2).trans (h5 j u hj)⟩
 ·intro x hx
  have hr:=RowAt.ofOwn (h.offs x hx)
  refine⟨hr.1,?_⟩
  rcases hr.2 with h0 | ⟨g,o,cap,hv,h1,h2,h3,h4,h5⟩
  ·exact Or.inl h0
  ·have hv':x.2.ownBlock=some g:=by rw[hv];rfl
   obtain⟨h6,c,fz,h7⟩:=own_block (h.offs x hx) g hv'
   exact Or.inr ⟨g,o,cap,hv,⟨⟨h6,h2⟩,c,fz,(hb.block g h2).trans h7⟩,by omega,h3,h4,fun j u hj=>(cell_bel hb ⟨g,o+j,none⟩ h2).trans (h5 j u hj)⟩
theorem ldOk_of {P:En.Pat}{W Next:Int}{Q R:List En.Ev}{B:List En.Rn}{K:Nat}{T:Int→Int}(hf:Pl.Fine P.steps P.win)(hw:En.Pw P W Next R B K T)(hv:En.Pv P Next R B)(hz:En.Pz P W R B)(hq:Q.Perm R)(hn:Next≤100000)(hW:W < 9223372036854775808):Fr.LdOk P W Next Q B:=by
 have b24:=hw.b24
 refine⟨hf,hw.wlo,hW,hw.n0,by omega,by rw[hq.length_eq];exact hw.q12,hw.apt.perm hq,fun e he=>?_,b24,hw.ord,fun r hr=>?_⟩
 ·have he':=hq.mem_iff.1 he
  obtain⟨h1,h2,h3⟩:=hv.evs e he'
  obtain⟨h4,h5,-,-⟩:=hw.evs e he'
  obtain⟨x,hx,hxe⟩:=En.has_mem h3
  have h6:=(hf.ltr x hx).2
  rw[hxe] at h6
  rcases h6 with h6 | h6<;>exact⟨h1,h2,by omega,by omega,h3,h4,by omega⟩
 ·obtain⟨g1,g2⟩:=hw.go r hr
  have hs:=hv.runs.short hr
  refine⟨g1,g2,by omega,fun o ho=>⟨(hv.runs.offs r hr o ho).1,(hv.runs.offs r hr o ho).2,fun e he h=>?_⟩,hz.rz.fits r hr,hz.rz.nodup r hr,(hw.lo r hr).1,(hw.lo r hr).2,hz.lasts r hr⟩
  exact hz.rz.wait r hr o ho (by rw[← h];exact List.mem_map.2 ⟨e,hq.mem_iff.1 he,rfl⟩)
theorem GAt.short {G:Nat→Prop}{w:World}{sb eb:Nat}{P:En.Pat}{W Next:Int}{R:List En.Ev}{B:List En.Rn}{K:Nat}{T:Int→Int}(h:GAt G w sb eb P W Next R B K T)(hv:En.Pv P Next R B):GAt G w sb eb P W Next R B 24 T:=by
 obtain⟨F,vs,vq,vr,Q,A,h1,rfl,h3⟩:=h
 have hp:=h1.pw
 refine⟨F,vs,vq,vr,Q,A,⟨h1.sblk,h1.pe,h1.hp,h1.perm,⟨hp.w0,hp.w1,hp.s0,hp.s4,hp.n0,hp.wlo,hp.q12,hp.evs,hp.apt,hp.ord,hp.det,hp.lo,hp.go,hp.b24,fun r hr=>?_⟩,h1.lt,h1.ns⟩,rfl,h3⟩
 have:=hv.runs.short hr
 have:=hp.b24
 omega
def frB (P:En.Pat)(W Next:Int)(R:List En.Ev)(B:List En.Rn):List UInt8:=Fr.framed (En.stateB (Pl.text P.steps P.win) W Next R B)
theorem stateB_perm {text:List UInt8}{W Next:Int}{Q R:List En.Ev}{B:List En.Rn}(hq:Q.Perm R)(ha:En.Apt R):En.stateB text W Next Q B=En.stateB text W Next R B:=by
 unfold En.stateB
 rw[En.sortEv_congr hq (ha.perm hq),hq.length_eq]
theorem frB_len {P:En.Pat}{W Next:Int}{R:List En.Ev}{B:List En.Rn}{K:Nat}{T:Int→Int}(hf:Pl.Fine P.steps P.win)(hw:En.Pw P W Next R B K T)(hv:En.Pv P Next R B)(hn:Next≤100000)(hW:W < 9223372036854775808):10≤(frB P W Next R B).length∧(frB P W Next R B).length≤8010:=by
 have hlen:=(svOk_of hf hw hv (Q:=En.sortEv R) (En.sortEv_ord R).heap (En.sortEv_perm R) hn hW).2
 rw[stateB_perm (En.sortEv_perm R) hw.apt] at hlen
 have t1:=Fr.num_pos (Pl.text P.steps P.win).length
 have t2:=Fr.num_pos (Fr.zig W)
 have t3:=Fr.num_pos Next.toNat
 have t4:=Fr.num_pos R.length
 have t5:=Fr.num_pos B.length
 unfold frB Fr.framed
 rw[List.length_append,Fr.sum_length]
 refine⟨?_,by omega⟩
 simp only[En.stateB,En.headB,Fr.mom,List.length_append,List.length_cons]
 omega
theorem frB_sound {P:En.Pat}{W Next:Int}{R:List En.Ev}{B:List En.Rn}:∃c,Fr.sound (frB P W Next R B) 83=some c:=by
 have hst:∃r,En.stateB (Pl.text P.steps P.win) W Next R B=83::r:=⟨_,by unfold En.stateB En.headB;rw[List.cons_append,List.cons_append]⟩
 obtain⟨r,hr⟩:=hst
 exact⟨_,by unfold frB;rw[hr];exact Fr.sound_framed _ _⟩
theorem frB_take {P:En.Pat}{W Next:Int}{R:List En.Ev}{B:List En.Rn}:(frB P W Next R B).take ((frB P W Next R B).length - 4)=En.stateB (Pl.text P.steps P.win) W Next R B:=by
 unfold frB Fr.framed
 rw[List.length_append,Fr.sum_length,Nat.add_sub_cancel,List.take_left' rfl]
theorem gLoad {P:En.Pat}{W Next:Int}{R:List En.Ev}{B:List En.Rn}{K:Nat}{T:Int→Int}(hf:Pl.Fine P.steps P.win)(hw:En.Pw P W Next R B K T)(hv:En.Pv P Next R B)(hz:En.Pz P W R B)(hn:Next≤100000)(hW:W < 9223372036854775808)(v:Value)(w:World)(hb:BytesAt (fun g=>g < w.heap.size) w v (frB P W Next R B))(hL:Letters w)(hT:Pow10 w) :
  Calls Tryz.prog 11 #[v] w fun e w'=>∃sb eb G,e=.returned (.tuple #[.pointer (some ⟨sb,0,none⟩),.int .i64 0])∧GAt G w' sb eb P W Next R B K T∧(∀b,G b→w.heap.size≤b)∧Below w.heap.size w w':=by
 obtain⟨c,hs⟩:=frB_sound (P:=P) (W:=W) (Next:=Next) (R:=R) (B:=B)
 have hl:=frB_len hf hw hv hn hW
 have hrd:=Fr.rdState_back (ldOk_of hf hw hv hz (List.Perm.refl R) hn hW)
 rw[← frB_take] at hrd
 refine (sLoad_ok v _ c _ w hb (by omega) hs (by omega) hrd hL hT).mono ?_
 rintro e w' ⟨w1,eb,vs,vq,vr,A,rfl,rfl,he,hb1⟩
 exact⟨_,eb,_,rfl,he.gat (List.Perm.refl R) hw,fun b hb=>by omega,hb1.trans ((Below.refl _ _).alloc hb1.size _)⟩
end Go.Proofs.YtfldcmdhneegmaaGreatDoor

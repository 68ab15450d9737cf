import Derived.Test.YtfldcmdhneegmaaGreatDoorX03
import Derived.Deep.DeepCutAuto
import Derived.Deep.CutBlock
set_option maxHeartbeats 4000000
set_option maxRecDepth 1000000
namespace Go.Proofs.YtfldcmdhneegmaaGreatDoor
open Go.RowKit Go.Lib
def stepRow (l:List (Int × Bool)):List Value:=l.flatMap fun x=>[.int .i32 x.1,.bool x.2]
theorem stepRow_get (l:List (Int × Bool))(i:Nat)(h:i < l.length):(stepRow l)[i * 2+0]?=some (.int .i32 l[i].1)∧(stepRow l)[i * 2+1]?=some (.bool l[i].2):=by
 have hd:∀(l:List (Int × Bool)) (n:Nat),(stepRow l).drop (n * 2)=stepRow (l.drop n):=by
  intro l n
  induction n generalizing l with
  | zero=>simp
  | succ n ih=>
   cases l with
   | nil=>simp[stepRow]
   | cons x r=>
    have:=ih r
    simp only[stepRow,List.flatMap_cons,List.drop_succ_cons] at this ⊢
    rw[show (n+1) * 2=n * 2+2 by omega,← this]
    rfl
 have hd:(stepRow l).drop (i * 2)=stepRow (l[i]::l.drop (i+1)):=by rw[hd,List.drop_eq_getElem_cons h]
 refine⟨?_,?_⟩
 all_goals
  rw[← List.getElem?_drop,hd]
  rfl
structure Reads (F:Nat→Prop)(w:World)(eb pb:Nat)(P:En.Pat)(vs vd vo:Value)(D:List En.Ev)(old:List RV):Prop where
 e0:w.cell? ⟨eb,0,none⟩=some (.pointer (some ⟨pb,0,none⟩))
 e4:w.cell? ⟨eb,4,none⟩=some vd
 e5:w.cell? ⟨eb,5,none⟩=some vo
 p0:w.cell? ⟨pb,0,none⟩=some vs
 p1:w.cell? ⟨pb,1,none⟩=some (.int .i64 P.win)
 steps:RowAt F w vs 2 P.steps.length (stepRow P.steps)
 done:EvsAt F w vd D
 old:RunsAt F w vo old
structure Bds (P:En.Pat)(D:List En.Ev)(old:List RV):Prop where
 w0:0≤P.win
 w1:P.win≤9999
 s4:P.steps.length≤4
 d12:D.length≤12
 o24:old.length≤24
 offs:∀x∈old,x.1.offs.length≤100000000
theorem Reads.below {F:Nat→Prop}{w w':World}{eb pb:Nat}{P:En.Pat}{vs vd vo:Value}{D:List En.Ev}{old:List RV}(h:Reads F w eb pb P vs vd vo D old)(hb:Below w.heap.size w w'):Reads F w' eb pb P vs vd vo D old where
 e0:=(cell_bel hb ⟨eb,0,none⟩ (World.block_lt_of_cell? w _ h.e0)).trans h.e0
 e4:=(cell_bel hb ⟨eb,4,none⟩ (World.block_lt_of_cell? w _ h.e4)).trans h.e4
 e5:=(cell_bel hb ⟨eb,5,none⟩ (World.block_lt_of_cell? w _ h.e5)).trans h.e5
 p0:=(cell_bel hb ⟨pb,0,none⟩ (World.block_lt_of_cell? w _ h.p0)).trans h.p0
 p1:=(cell_bel hb ⟨pb,1,none⟩ (World.block_lt_of_cell? w _ h.p1)).trans h.p1
 steps:=h.steps.below hb
 done:=h.done.below hb
 old:=h.old.below hb
theorem Reads.stepAt {F:Nat→Prop}{w:World}{eb pb:Nat}{P:En.Pat}{ao:Option Addr}{n cap:Nat}{vd vo:Value}{D:List En.Ev}{old:List RV}(h:Reads F w eb pb P (.slice ao n cap) vd vo D old){i:Nat}(hi:i < P.steps.length) :
  ∃b o,ao=some ⟨b,o,none⟩∧w.cell? ⟨b,o+i * 2,none⟩=some (.int .i32 P.steps[i].1)∧w.cell? ⟨b,o+i * 2+1,none⟩=some (.bool P.steps[i].2):=by
 rcases h.steps.2 with ⟨_,h0⟩ | ⟨b,o,cap',he,_,hb,_,_,r⟩
 ·omega
 ·cases he
  obtain⟨g0,g1⟩:=stepRow_get P.steps i hi
  exact⟨b,o,rfl,r _ _ g0,r _ _ g1⟩
theorem kindAt_get {P:En.Pat}{s:Nat}(h:s < P.steps.length):En.kindAt P s=some P.steps[s].1:=by simp[En.kindAt,h]
theorem plusAt_get {P:En.Pat}{s:Nat}(h:s < P.steps.length):En.plusAt P s=P.steps[s].2:=by simp[En.plusAt,h]
def stepS (P:En.Pat)(D:List En.Ev)(E:Nat→Nat→List En.Rn)(old:List En.Rn)(ev:En.Ev)(step k s:Nat)(q:List En.Rn):List En.Rn:=En.fromOld P old ev step s (En.back P D E ev step s k q)
structure Out (P:En.Pat)(D:List En.Ev)(E:Nat→Nat→List En.Rn)(old:List En.Rn)(ev:En.Ev)(step k:Nat)(sb:Bool)(R:List En.Rn)(s:Int)(q:List En.Rn):Prop where
 lo:(step:Int) - 1≤s
 hi:s≤(step:Int)+1
 at0:s=(step:Int) - 1→R=(if sb then stepS P D E old ev step k step (if 0 < step then stepS P D E old ev step k (step - 1) q else q) else (if 0 < step then stepS P D E old ev step k (step - 1) q else q))
 at1:s=(step:Int)→R=(if sb then stepS P D E old ev step k step q else q)
 at2:s=(step:Int)+1→R=q
theorem stepS_ge (P:En.Pat)(D:List En.Ev)(E:Nat→Nat→List En.Rn)(old:List En.Rn)(ev:En.Ev)(step k s:Nat)(q:List En.Rn):q.length≤(stepS P D E old ev step k s q).length:=
 Nat.le_trans (En.back_ge P D E ev step s k q) (En.fromOld_ge P old ev step s _)
theorem Out.skip {P:En.Pat}{D:List En.Ev}{E:Nat→Nat→List En.Rn}{old:List En.Rn}{ev:En.Ev}{step k:Nat}{sb:Bool}{R q:List En.Rn}{s:Int}(h:Out P D E old ev step k sb R s q)(hs:s < 0∨(s=step∧sb=false)):Out P D E old ev step k sb R (s+1) q:=by
 have h1:=h.lo
 have h2:=h.hi
 rcases hs with hs | ⟨hs,hb⟩
 ·obtain rfl:step=0:=by omega
  have he:s=((0:Nat):Int) - 1:=by omega
  have:=h.at0 he
  rw[show (if 0 < 0 then stepS P D E old ev 0 k (0 - 1) q else q)=q from if_neg (by omega)] at this
  exact⟨by omega,by omega,fun e=>by omega,fun _=>this,fun e=>by omega⟩
 ·have:=h.at1 hs
  rw[hb,if_neg (by simp)] at this
  exact⟨by omega,by omega,fun e=>by omega,fun e=>by omega,fun _=>this⟩
theorem Out.go {P:En.Pat}{D:List En.Ev}{E:Nat→Nat→List En.Rn}{old:List En.Rn}{ev:En.Ev}{step k:Nat}{sb:Bool}{R q:List En.Rn}{s:Nat}(h:Out P D E old ev step k sb R s q)(hs:s≤step)(hb:s=step→sb=true):Out P D E old ev step k sb R (s+1:Int) (stepS P D E old ev step k s q)∧(stepS P D E old ev step k s q).length≤R.length:=by
 have h1:=h.lo
 by_cases he:s=step
 ·have:=h.at1 (by omega)
  rw[hb he,if_pos rfl] at this
  rw[he]
  exact⟨⟨by omega,by omega,fun e=>by omega,fun e=>by omega,fun _=>this⟩,by rw[this];exact Nat.le_refl _⟩
 ·have hs':s=step - 1:=by omega
  have hp:0 < step:=by omega
  have:=h.at0 (by omega)
  rw[if_pos hp,← hs'] at this
  refine⟨⟨by omega,by omega,fun e=>by omega,fun _=>this,fun e=>by omega⟩,?_⟩
  rw[this]
  split
  ·exact stepS_ge _ _ _ _ _ _ _ _ _
  ·exact Nat.le_refl _
structure ERel (F:Nat→Prop)(w1 wr:World)(v:Value)(l':List RV)(q:List En.Rn):Prop where
 runs:RunsAt F wr v l'
 eq:l'.map Prod.fst=q
 bel:Below w1.heap.size w1 wr
theorem ERel.below {F:Nat→Prop}{w1 wr w2:World}{v:Value}{l':List RV}{q:List En.Rn}(h:ERel F w1 wr v l' q)(hb:Below wr.heap.size wr w2):ERel F w1 w2 v l' q:=
 ⟨h.runs.below hb,h.eq,h.bel.trans (hb.mono h.bel.size)⟩
theorem ERel.len {F:Nat→Prop}{w1 wr:World}{v:Value}{l':List RV}{q:List En.Rn}(h:ERel F w1 wr v l' q):l'.length=q.length:=by rw[← h.eq,List.length_map]
theorem ends_bound (P:En.Pat)(D:List En.Ev)(old:List RV)(hB:Bds P D old)(f step k:Nat)(hk:k < D.length):(En.endsF P D (old.map Prod.fst) f step k).length≤900000000∧∀r∈En.endsF P D (old.map Prod.fst) f step k,r.offs.length≤900000000:=by
 have hd:=hB.d12
 have ho:=hB.o24
 constructor
 ·refine Nat.le_trans (En.endsF_le P D _ f step k) ?_
  rw[List.length_map]
  have h3:3 ^ k≤3 ^ 12:=Nat.pow_le_pow_right (by omega) (by omega)
  have:=Nat.mul_le_mul (show 1+2 * old.length≤49 by omega) h3
  refine Nat.le_trans this (by decide)
 ·intro r hr
  have:=En.endsF_offs (M:=100000000) (fun r hr=>by obtain⟨x,hx,rfl⟩:=List.mem_map.1 hr;exact hB.offs x hx) f step k r hr
  omega
theorem RunsAt.one {F:Nat→Prop}{w:World}{ao:Option Addr}{cap:Nat}{l:List RV}(h:RunsAt F w (.slice ao l.length cap) l)(i:Nat)(hi:i < l.length) :
  ∃vs,(∀W,(Instr.slice 84 (.slice ao l.length cap) (some (.int .i64 i)) (some (.int .i64 (i+1))) none).run Tryz.prog W=.ok vs W)∧RunsAt F w vs [l[i]]:=by
 obtain⟨ao',cap',he,hc,-⟩:=h.slice
 cases he
 refine⟨Go.sliced ao i (i+1) cap 3,fun W=>?_,⟨?_,fun x hx=>by rw[List.mem_singleton.1 hx];exact h.offs _ (List.getElem_mem hi)⟩⟩
 ·rw[run_slice_lh W 84 ao l.length cap (by rw[Tryz.elemRuns];exact Tryz.underlying84) .i64 .i64 i (i+1) (by omega) (by omega) (by omega),Tryz.elemRuns,Tryz.sizeOf92]
  simp[Result.andThen]
  try rfl
 ·have:=h.row.sliced i (i+1) (by omega) hi
  rw[runCells_drop,show i+1 - i=1 by omega,runCells_take,List.drop_eq_getElem_cons hi] at this
  exact this
theorem start_rel {F:Nat→Prop}{w w1 W0 w2:World}{off time:Int}{v2:Value}{o:Obj}(hd:Dr w1 W0)(hF:∀b,w.heap.size≤b→F b)(hw:Below w.heap.size w w1)
  (own:w2.ownsRow W0.heap.size 92 3 v2 (0+1) ([]++[.int .i64 0,.slice (some ⟨W0.heap.size,0,none⟩) 1 1,.int .i64 time])) (gr:((W0.alloc (.cells #[.int .i64 off] 3)).alloc o).grownBy w2 (Value.slice none 0 0).ownBlock) :
  ERel F w1 w2 v2 [(⟨0,[off],time⟩,.slice (some ⟨W0.heap.size,0,none⟩) 1 1)] [⟨0,[off],time⟩]:=by
 have hb:Below W0.heap.size W0 w2:=(((Below.refl _ W0).alloc (Nat.le_refl _) _).alloc (by simp) o).grown gr (by simp;omega) (fun k hk=>by cases hk)
 have hsz:w.heap.size≤W0.heap.size:=Nat.le_trans hw.size (hd.below 0).size
 refine⟨⟨?_,fun x hx=>?_⟩,rfl,(hd.below _).trans (hb.mono (hd.below 0).size)⟩
 ·have h1:=(RowAt.ofOwn own).mono (G:=F) (fun b _ h=>hF b (Nat.le_trans hsz h))
  simpa [runCells] using h1
 ·obtain rfl:=List.mem_singleton.1 hx
  have hg:w2.heap[W0.heap.size]?=some (.cells #[.int .i64 off] 3 (0,0)):=by
   rw[gr.block _ (by simp;omega) (by simp[Value.ownBlock]),Below.heap_alloc _ _ _ (by simp)]
   exact heap_alloc_new W0 _
  refine⟨rfl,Or.inr ⟨W0.heap.size,0,1,rfl,hF _ hsz,lt_of_block hg,Nat.le_refl _,by unfold maxLen;omega,fun j u hj=>?_⟩⟩
  match j,hj with
  | 0,hj=>simp[intCells] at hj;subst hj;simp[World.cell?,hg]
theorem rEnds_any (F:Nat→Prop)(eb pb:Nat)(P:En.Pat)(vs vd vo:Value)(D:List En.Ev)(old:List RV)(hB:Bds P D old)(f:Nat):∀(step k:Nat) (w:World),k < f→step < P.steps.length→k < D.length→(∀b,w.heap.size≤b→F b)→Reads F w eb pb P vs vd vo D old →
  Calls Tryz.prog 48 #[.pointer (some ⟨eb,0,none⟩),.int .i64 step,.int .i64 k] w fun e w'=>Makes F (En.endsF P D (old.map Prod.fst) f step k) w e w':=by
 induction f with
 | zero=>intro step k w hk;omega
 | succ f ih=>
  intro step k w hk hst hkD hF hR
  obtain⟨a1,c1,rfl,-,-⟩:=RowAt.slice hR.steps
  obtain⟨a2,c2,rfl,-,-⟩:=RowAt.slice hR.done
  obtain⟨a3,c3,rfl,-,-⟩:=RowAt.slice hR.old.row
  have e0:=hR.e0
  have e4:=hR.e4
  have p0:=hR.p0
  obtain⟨b1,o1,rfl,s0,s1⟩:=hR.stepAt hst
  obtain⟨b2,o2,rfl,hb2,d0,d1,d2⟩:=EvsAt.get hR.done hkD
  have hD:D[k]?=some D[k]:=by simp[hkD]
  have hkind:=kindAt_get hst
  have hplus:=plusAt_get hst
  generalize D[k]=ev at d0 d1 d2 hD
  generalize P.steps[step]=sp at s0 s1 hkind hplus
  obtain⟨sk,sb⟩:=sp
  obtain⟨off,kind,time⟩:=ev
  simp only at s0 s1 d0 d1 d2 hkind hplus
  have hal:=(Below.refl w.heap.size w).alloc (Nat.le_refl _) (.cells #[.int .i64 off,.int .i32 kind,.int .i64 time] 89)
  have HR1:=hid (hR.below hal)
  have HF:=hid hF
  have IH:=hid ih
  have HB:=hid hB
  have HX:=hid (And.intro hD (And.intro hkind hplus))
  have HAL:=hid hal
  have hd12:=hB.d12
  have ho24:=hB.o24
  have hs4:=hB.s4
  have hw0:=hB.w0
  have hw1:=hB.w1
  have HCS:=hid (And.intro s0 s1)
  clear hR hF ih hB hD hkind hplus hal s0 s1
  go_enter Tryz.func48,Tryz.ntmps48
  go_wp2
  clear e0 e4 p0 d0 d1 d2
  generalize hw1':w.alloc (.cells #[.int .i64 off,.int .i32 kind,.int .i64 time] 89)=w1 at HR1 HAL ⊢
  have r0:w1.cell? ⟨w.heap.size,0,none⟩=some (.int .i64 off):=by rw[← hw1'];simp
  have r1:w1.cell? ⟨w.heap.size,1,none⟩=some (.int .i32 kind):=by rw[← hw1'];simp
  have r2:w1.cell? ⟨w.heap.size,2,none⟩=some (.int .i64 time):=by rw[← hw1'];simp
  have HC0:w.heap.size < w1.heap.size:=World.block_lt_of_cell? w1 ⟨w.heap.size,0,none⟩ r0
  have e0:=HR1.out.e0
  have p0:=HR1.out.p0
  obtain⟨b1',o1',hb1',s0,s1⟩:=HR1.out.stepAt hst
  cases hb1'
  have hsp:P.steps[step]=(sk,sb):=by
   have h1:=kindAt_get hst
   have h2:=plusAt_get hst
   rw[HX.out.2.1] at h1
   rw[HX.out.2.2] at h2
   exact Prod.ext (Option.some.inj h1).symm h2.symm
  rw[hsp] at s0 s1
  have HC:=hid (And.intro r0 (And.intro r1 r2))
  have HSC:=hid (And.intro s0 s1)
  clear hsp hw1' HCS
  by_cases hsame:sk=kind
  ·have hne:(sk != kind)=false:=by simpa using hsame
   have HE:Hid (Out P D (En.endsF P D (old.map Prod.fst) f) (old.map Prod.fst) ⟨off,kind,time⟩ step k sb (En.endsF P D (old.map Prod.fst) (f+1) step k) ((step:Int) - 1) (if step=0 then [⟨0,[off],time⟩] else [])):=by
    refine⟨by omega,by omega,fun _=>?_,fun e=>by omega,fun e=>by omega⟩
    rw[En.endsF,HX.out.1]
    simp only[]
    rw[if_neg (by rw[HX.out.2.1];simp[hsame]),HX.out.2.2]
    rfl
   have HNB:=hid (ends_bound P D old HB.out (f+1) step k hkD)
   obtain⟨R,hRR⟩:∃R,En.endsF P D (old.map Prod.fst) (f+1) step k=R:=⟨_,rfl⟩
   rw[hRR] at HE HNB
   have HRR:=hid hRR
   clear hRR
   clear hsame
   go_wp2
   go_quiet (fail)
   revert nq;intro n1
   have HD1:=hid ((Dr.refl w1).step n1)
   generalize w1.drewN n1=W0 at HD1 ⊢
   have hsz:w.heap.size < W0.heap.size:=Nat.lt_of_lt_of_le HC0 (HD1.out.below 0).size
   have r0':=(HD1.out.cell ⟨w.heap.size,0,none⟩).trans r0
   have r2':=(HD1.out.cell ⟨w.heap.size,2,none⟩).trans r2
   go_upto_if 40 with fail
   go_cut [8] (fun s8 wx=>∃v l',s8=v∧Hid (ERel F w1 wx v l' (if step=0 then [⟨0,[off],time⟩] else [])))
   case first=>
    by_cases h0:step=0
    ·subst h0
     obtain⟨i0,hi0,hz0,hz1,hz2⟩:=info_parts Tryz.infoRun
     go_wp2_with (at_builtin;refine wpList_append_row rfl _ _ 84 rfl W0.heap.size 92 i0 (.agg #[.int .i64 0,.slice none 0 0,.int .i64 0]) 3 40 Tryz.underlying84 hi0 hz0 hz1 hz2 rfl (by decide) _ _ _ rfl (World.ownsRow_nil _ _ _ _) (fun _=>True) _ 1 [.int .i64 0,.slice (some ⟨W0.heap.size,0,none⟩) 1 1,.int .i64 time] rfl (three_row (new_at (by simp;done))) (by intro u hu;simp at hu;rcases hu with rfl | rfl | rfl<;>rfl) (by unfold maxLen;omega) (by omega) (by simp;try omega) ?_)
     intro v2 w2 ow2 gr2
     have HN:Hid (ERel F w1 w2 v2 [(⟨0,[off],time⟩,.slice (some ⟨W0.heap.size,0,none⟩) 1 1)] [⟨0,[off],time⟩]):=start_rel (HD1.out) HF.out HAL.out ow2 gr2
     clear ow2 gr2
     go_wp2
     go_meet
     case rel=>exact⟨_,_,rfl,by simpa using HN⟩
    ·have h0':((step:Int) == 0)=false:=by simp;omega
     go_wp2
     go_meet
     case rel=>exact⟨_,[],rfl,⟨⟨rfl,Or.inl ⟨rfl,rfl⟩⟩,by simp⟩,by simp[h0],HD1.out.below _⟩
   case rest=>
    obtain⟨v0,l0,rfl,HE0⟩:=hcut
    generalize (if step=0 then [(⟨0,[off],time⟩:En.Rn)] else [])=q0 at HE HE0
    clear r0' r2' hsz HD1
    go_wp2
    go_loopw [8,9] (fun l s wr=>∃(v:Value) (l':List RV) (q:List En.Rn) (sI:Int),l=v∧s=.int .i64 sI∧(step:Int) - 1≤sI∧sI≤(step:Int)+1∧Hid (ERel F w1 wr v l' q)∧Hid (Out P D (En.endsF P D (old.map Prod.fst) f) (old.map Prod.fst) ⟨off,kind,time⟩ step k sb R sI q)) (fun _ s _=>((step:Int)+1 - intOf s).toNat)
    case atStart=>exact⟨_,_,_,_,rfl,rfl,by omega,by omega,HE0,HE⟩
    case round=>
     obtain⟨v,l',q,sI,rfl,rfl,hlo,hhi,hr,ho⟩:=hrel
     obtain⟨av,cv,rfl,-,-⟩:=hr.out.runs.slice
     clear r0 r1 r2 e0 p0 s0 s1 HE HE0
     by_cases hle:sI≤step
     ·have hbel:=hr.out.bel
      have HRr:=hid (HR1.out.below hbel)
      have e0:=HRr.out.e0
      have p0:=HRr.out.p0
      have s1:=(cell_bel hbel ⟨b1,o1+step * 2+1,none⟩ (World.block_lt_of_cell? w1 ⟨b1,o1+step * 2+1,none⟩ HSC.out.2)).trans HSC.out.2
      clear hbel
      go_upto_region 10 with fail
      go_cut [77] (fun s77 wx=>∃c:Bool,s77=.bool c∧wx=wr∧Hid (c=decide (sI < 0∨(sI=step∧sb=false))))
      case first=>
       by_cases h1:sI < 0
       ·go_wp2
        go_meet
        case rel=>exact⟨_,rfl,rfl,by unfold Hid;simp[h1]⟩
       ·have h1':decide (sI < 0)=false:=by simpa using h1
        by_cases h2:sI=step
        ·have h2':(sI == (step:Int))=true:=by simpa using h2
         have H2:=hid h2
         clear h2
         cases sb
         ·go_wp2
          go_meet
          case rel=>exact⟨_,rfl,rfl,by unfold Hid;simp[H2.out]⟩
         ·go_wp2
          go_meet
          case rel=>exact⟨_,rfl,rfl,by unfold Hid;simp;omega⟩
        ·have h2':(sI == (step:Int))=false:=by simpa using h2
         go_wp2
         go_meet
         case rel=>exact⟨_,rfl,rfl,by unfold Hid;simp[h2];omega⟩
      case rest=>
       obtain⟨c,rfl,rfl,hc⟩:=hcut
       by_cases hsk:sI < 0∨(sI=step∧sb=false)
       ·obtain rfl:c=true:=hc.out.trans (decide_eq_true hsk)
        have HSK:=hid hsk
        clear hsk
        go_wp2
        go_roundw
        case rel=>exact⟨_,_,_,_,rfl,by go_num,by omega,by omega,hr,hid (ho.out.skip HSK.out)⟩
        case measure=>simp[intOf];omega
       ·obtain rfl:c=false:=hc.out.trans (decide_eq_false hsk)
        obtain⟨sN,rfl⟩:∃n:Nat,sI=n:=⟨sI.toNat,by omega⟩
        have HGO:=hid (ho.out.go (s:=sN) (by omega) (fun e=>by cases hsb:sb with | true=>rfl | false=>exact absurd (Or.inr ⟨by omega,hsb⟩) hsk))
        have hsN:sN≤step:=by omega
        clear hsk ho hc e0 p0 s1 HRr
        generalize hqn:stepS P D (En.endsF P D (old.map Prod.fst) f) (old.map Prod.fst) ⟨off,kind,time⟩ step k sN q=qn at HGO
        have HQN:=hid hqn
        clear hqn
        go_upto_block 2 with fail
        go_cut [8] (fun s8 wx=>∃v l',s8=v∧Hid (ERel F w1 wx v l' (En.back P D (En.endsF P D (old.map Prod.fst) f) ⟨off,kind,time⟩ step sN k q)))
        case first=>
         go_wp2_with fail
         go_loopw [8,10] (fun l j wj=>∃(jn:Nat) (v:Value) (lj:List RV) (qj:List En.Rn),jn≤k∧j=.int .i64 ((jn:Int) - 1)∧l=v∧Hid (ERel F w1 wj v lj qj)∧Hid (En.back P D (En.endsF P D (old.map Prod.fst) f) ⟨off,kind,time⟩ step sN jn qj=En.back P D (En.endsF P D (old.map Prod.fst) f) ⟨off,kind,time⟩ step sN k q)) (fun _ j _=>(intOf j+1).toNat)
         case atStart=>exact⟨k,_,_,_,Nat.le_refl _,by go_num,rfl,hr,rfl⟩
         case round=>
          obtain⟨jn,vj,lj,qj,hjk,rfl,rfl,hj,hbk⟩:=hrel
          obtain⟨aj,cj,rfl,-,-⟩:=hj.out.runs.slice
          by_cases hj0:jn=0
          ·subst hj0
           go_wp2
           go_meet
           case rel=>exact⟨_,_,rfl,by rw[← hbk.out];exact hj⟩
          ·obtain⟨jm,rfl⟩:∃jm,jn=jm+1:=⟨jn - 1,by omega⟩
           rw[show (((jm+1:Nat):Int) - 1)=(jm:Int) by omega]
           have hjD:jm < D.length:=by omega
           have hbel:=hj.out.bel
           have HRj:=hid (HR1.out.below hbel)
           have e0:=HRj.out.e0
           have e4:=HRj.out.e4
           have p1:=HRj.out.p1
           have r2:=(cell_bel hbel ⟨w.heap.size,2,none⟩ HC0).trans HC.out.2.2
           obtain⟨b2',o2',hb2',hbz,d0,d1,d2⟩:=EvsAt.get HRj.out.done hjD
           cases hb2'
           have hDj:D[jm]?=some D[jm]:=by simp[hjD]
           have HFar:=hid (fun n=>rFar_any time D[jm].time (wr.drewN n))
           generalize D[jm]=dj at d0 d1 d2 hDj HFar
           have HDJ:=hid hDj
           clear hbel hDj d0 d1
           by_cases hfr:P.win < En.far time dj.time
           ·go_wp2
            go_quiet ((go_at_call 71;exact Calls.quiet_of_same (HFar.out _)))
            revert nq;intro n1
            go_wp2
            go_meet
            case rel=>
             refine⟨_,lj,rfl,?_⟩
             have:En.back P D (En.endsF P D (old.map Prod.fst) f) ⟨off,kind,time⟩ step sN (jm+1) qj=qj:=by
              unfold En.back
              rw[HDJ.out]
              exact if_pos hfr
             rw[← hbk.out,this]
             exact hid (hj.out.below (bel_drewN (Below.refl _ _) _))
           ·go_wp2
            go_quiet ((go_at_call 71;exact Calls.quiet_of_same (HFar.out _)))
            revert nq;intro n1
            have HBE:Hid (Below w1.heap.size w1 (wr.drewN n1)):=bel_drewN hj.out.bel n1
            have HIH:=hid (IH.out sN jm (wr.drewN n1) (by omega) (by omega) hjD (fun b hb=>HF.out b (Nat.le_trans HAL.out.size (Nat.le_trans HBE.out.size hb))) (HR1.out.below HBE.out))
            have HJ1:=hid (hj.out.below (bel_drewN (Below.refl _ _) n1))
            have HEB:=hid (ends_bound P D old HB.out f sN jm hjD)
            have hnf:¬ P.win < En.far time dj.time:=by omega
            have HNF:=hid hnf
            clear e0 e4 p1 r2 d2 HRj hnf
            generalize wr.drewN n1=W1 at HBE HIH HJ1 ⊢
            have e0:=(HR1.out.below HBE.out).e0
            have p1:=(HR1.out.below HBE.out).p1
            go_wp2_with (go_at_call 48;refine HIH.out.mono ?_;rintro e w2 ⟨vm,lm,rfl,hm,hmq,bm⟩;have HM:=hid (And.intro hm (And.intro hmq bm));have hbel2:=HBE.out.trans (bm.mono HBE.out.size);have r0:=(cell_bel hbel2 ⟨w.heap.size,0,none⟩ HC0).trans HC.out.1;have r1:=(cell_bel hbel2 ⟨w.heap.size,1,none⟩ HC0).trans HC.out.2.1;have r2:=(cell_bel hbel2 ⟨w.heap.size,2,none⟩ HC0).trans HC.out.2.2;have HBE2:=hid hbel2;clear hm hmq bm hbel2)
            have HLG:=hid (rLonger_any F eb pb P vm lm ⟨off,kind,time⟩ step w2 (fun b hb=>HF.out b (Nat.le_trans HAL.out.size (Nat.le_trans HBE2.out.size hb))) HM.out.1 (by have h1:=congrArg List.length HM.out.2.1;rw[List.length_map] at h1;have:=HEB.out.1;omega) (fun x hx=>by have:=HEB.out.2 x.1 (by rw[← HM.out.2.1];exact List.mem_map.2 ⟨x,hx,rfl⟩);omega) (HR1.out.below HBE2.out).e0 (HR1.out.below HBE2.out).p1 hw0 hw1)
            rw[HM.out.2.1] at HLG
            refine HLG.out.mono ?_
            rintro e w3 ⟨vn,ln,rfl,hn3,hnq,bn⟩
            have HN3:=hid (And.intro hn3 hnq)
            have HJ3:=hid ((HJ1.out.below HM.out.2.2).below bn)
            have HW23:=hid bn.size
            obtain⟨an,cn,rfl,hcn,hcm⟩:=hn3.slice
            unfold maxLen at hcm
            have hlnb:ln.length≤900000000:=by
             have h1:=congrArg List.length hnq
             rw[List.length_map] at h1
             have h2:=En.longer_le P (En.endsF P D (old.map Prod.fst) f sN jm) ⟨off,kind,time⟩ step
             have:=HEB.out.1
             omega
            have HBK:Hid (En.back P D (En.endsF P D (old.map Prod.fst) f) ⟨off,kind,time⟩ step sN jm (En.puts qj (ln.map Prod.fst))=En.back P D (En.endsF P D (old.map Prod.fst) f) ⟨off,kind,time⟩ step sN k q):=by
             rw[hnq]
             have h1:=hbk.out
             conv at h1=>lhs;unfold En.back
             rw[HDJ.out] at h1
             simp only[] at h1
             rw[if_neg (by have:=HNF.out;show ¬ P.win < En.far time dj.time;omega)] at h1
             exact h1
            have HNB2:Hid ((En.puts qj (ln.map Prod.fst)).length≤900000000):=by
             have h1:=En.back_ge P D (En.endsF P D (old.map Prod.fst) f) ⟨off,kind,time⟩ step sN jm (En.puts qj (ln.map Prod.fst))
             rw[HBK.out] at h1
             have h2:=En.fromOld_ge P (old.map Prod.fst) ⟨off,kind,time⟩ step sN (En.back P D (En.endsF P D (old.map Prod.fst) f) ⟨off,kind,time⟩ step sN k q)
             have h3:=HQN.out
             unfold stepS at h3
             rw[h3] at h2
             exact Nat.le_trans h1 (Nat.le_trans h2 (Nat.le_trans HGO.out.2 HNB.out.1))
            clear hn3 hnq bn HLG HIH HM HEB hbk r0 r1 r2 e0 p1
            go_wp2
            go_loopw [8,14] (fun l i wi=>∃(ii:Nat) (v:Value) (li:List RV) (qi:List En.Rn),ii≤ln.length∧i=.int .i64 ii∧l=v∧Hid (ERel F w3 wi v li qi)∧Hid (En.puts qi ((ln.map Prod.fst).drop ii)=En.puts qj (ln.map Prod.fst))) (fun _ i _=>ln.length - (intOf i).toNat)
            case atStart=>exact⟨0,_,_,_,Nat.zero_le _,rfl,rfl,hid ⟨HJ3.out.runs,HJ3.out.eq,Below.refl _ _⟩,rfl⟩
            case round=>
             obtain⟨ii,vi,li,qi,hii,rfl,rfl,hi,hpu⟩:=hrel
             obtain⟨ai,ci,rfl,-,-⟩:=hi.out.runs.slice
             by_cases hlt:ii < ln.length
             ·obtain⟨bb,oo,hbb,hbz',g0,g1,g2⟩:=(HN3.out.1.below hi.out.bel).get hlt
              cases hbb
              have hmem:ln[ii]∈ln:=List.getElem_mem hlt
              have HOF:=hid ((HN3.out.1.below hi.out.bel).offs _ hmem)
              have hget:(ln.map Prod.fst)[ii]?=some ln[ii].1:=by simp[hlt]
              obtain⟨ar,cr,hvr,-,-⟩:=RowAt.slice HOF.out
              rw[hvr] at g1
              have hPut:=rPut_any F _ li ln[ii] wr (fun b hb=>HF.out b (Nat.le_trans HAL.out.size (Nat.le_trans HBE2.out.size (Nat.le_trans (Nat.le_trans (Nat.le_refl _) HW23.out) (Nat.le_trans hi.out.bel.size hb))))) hi.out.runs HOF.out (by
               have h1:=En.puts_ge qi ((ln.map Prod.fst).drop ii)
               rw[hpu.out] at h1
               have h2:=hi.out.len
               have:=HNB2.out
               omega)
              rw[hvr] at hPut
              have HPut:=hid hPut
              generalize ln[ii]=rr at g0 g1 g2 hget hvr HOF HPut
              have HG:=hid hget
              clear hPut hget hmem hvr
              go_wp2_with (go_at_call 94;refine HPut.out.mono ?_;rintro e w4 ⟨v4,l4,rfl,hr4,hq4,b4⟩;have H4:=hid (And.intro hr4 (And.intro hq4 b4));clear hr4 hq4 b4)
              go_roundw
              case rel=>
               refine⟨ii+1,_,l4,En.put qi rr.1,by omega,by go_num,rfl,hid ⟨H4.out.1,by rw[H4.out.2.1,hi.out.eq],hi.out.bel.trans (H4.out.2.2.mono hi.out.bel.size)⟩,?_⟩
               unfold Hid
               rw[← hpu.out,drop_of_get HG.out]
               rfl
              case measure=>simp[intOf];omega
             ·have hqi:qi=En.puts qj (ln.map Prod.fst):=by
               have h1:=hpu.out
               rw[List.drop_eq_nil_of_le (by simpa using hlt)] at h1
               exact h1
              have HQI:=hid hqi
              clear hqi
              go_wp2
              go_roundw
              case rel=>exact⟨jm,_,li,_,by omega,by go_num,rfl,hid ⟨hi.out.runs,hi.out.eq.trans HQI.out,HJ3.out.bel.trans (hi.out.bel.mono HJ3.out.bel.size)⟩,HBK⟩
              case measure=>simp[intOf]
        case rest=>
         obtain⟨vb,lb,rfl,hb0⟩:=hcut
         have HQ2:Hid (En.fromOld P (old.map Prod.fst) ⟨off,kind,time⟩ step sN (En.back P D (En.endsF P D (old.map Prod.fst) f) ⟨off,kind,time⟩ step sN k q)=qn):=HQN.out
         generalize En.back P D (En.endsF P D (old.map Prod.fst) f) ⟨off,kind,time⟩ step sN k q=qb at HQ2 hb0
         clear HQN hr
         go_wp2
         go_loopw [8,15] (fun l i wi=>∃(ii:Nat) (v:Value) (li:List RV) (qi:List En.Rn),ii≤old.length∧i=.int .i64 ii∧l=v∧Hid (ERel F w1 wi v li qi)∧Hid (En.fromOld P ((old.map Prod.fst).drop ii) ⟨off,kind,time⟩ step sN qi=qn)) (fun _ i _=>old.length - (intOf i).toNat)
         case atStart=>exact⟨0,_,_,_,Nat.zero_le _,rfl,rfl,hb0,HQ2⟩
         case round=>
          obtain⟨ii,vi,li,qi,hii,rfl,rfl,hi,hfo⟩:=hrel
          obtain⟨ai,ci,rfl,-,-⟩:=hi.out.runs.slice
          have HRi:=hid (HR1.out.below hi.out.bel)
          have e5:=HRi.out.e5
          by_cases hlt:ii < old.length
          ·obtain⟨bb,oo,hbb,hbz',g0,g1,g2⟩:=HRi.out.old.get hlt
           subst hbb
           have hmem:old[ii]∈old:=List.getElem_mem hlt
           have HOF:=hid (HRi.out.old.offs _ hmem)
           have hget:(old.map Prod.fst)[ii]?=some old[ii].1:=by simp[hlt]
           have hol:=HB.out.offs _ hmem
           obtain⟨vo1,hsl,hv1⟩:=HRi.out.old.one ii hlt
           have HV1:=hid hv1
           generalize old[ii]=x at g0 g1 g2 hget HOF hol HV1
           obtain⟨⟨xs,xo,xf⟩,xv⟩:=x
           simp only at g0 hget hol
           have HG:=hid hget
           clear hget hmem hv1 g1 g2
           by_cases hst2:xs=sN
           ·have hst':((xs:Int) == (sN:Int))=true:=by simp;omega
            have HS2:=hid hst2
            clear hst2
            have r0:=(cell_bel hi.out.bel ⟨w.heap.size,0,none⟩ HC0).trans HC.out.1
            have r1:=(cell_bel hi.out.bel ⟨w.heap.size,1,none⟩ HC0).trans HC.out.2.1
            have r2:=(cell_bel hi.out.bel ⟨w.heap.size,2,none⟩ HC0).trans HC.out.2.2
            have hzw:w.heap.size < wr.heap.size:=Nat.lt_of_lt_of_le HC0 hi.out.bel.size
            have hze:eb < wr.heap.size:=World.block_lt_of_cell? wr ⟨eb,5,none⟩ e5
            have hwrap:IntKind.i64.wrap ((ii:Int)+1)=(ii:Int)+1:=by have:=HB.out.o24;simp[IntKind.wrap,IntKind.bits,IntKind.signed];omega
            have HLG:Hid (∀W,Below wr.heap.size wr W→Calls Tryz.prog 93 #[.pointer (some ⟨eb,0,none⟩),vo1,.agg #[.int .i64 off,.int .i32 kind,.int .i64 time],.int .i64 step] W fun e w'=>Makes F (En.longer P [⟨xs,xo,xf⟩] ⟨off,kind,time⟩ step) W e w'):=fun W hb=>
             rLonger_any F eb pb P vo1 [(⟨xs,xo,xf⟩,xv)] ⟨off,kind,time⟩ step W (fun b hb'=>HF.out b (Nat.le_trans HAL.out.size (Nat.le_trans hi.out.bel.size (Nat.le_trans hb.size hb')))) (HV1.out.below hb) (by simp) (fun y hy=>by rw[List.mem_singleton.1 hy];show xo.length≤_;omega) (HRi.out.below hb).e0 (HRi.out.below hb).p1 hw0 hw1
            go_wp2
            go_region_held2 (fun W=>W.cell? ⟨eb,5,none⟩=some (.slice (some ⟨bb,oo,none⟩) old.length c3)∧W.cell? ⟨w.heap.size,0,none⟩=some (.int .i64 off)∧W.cell? ⟨w.heap.size,1,none⟩=some (.int .i32 kind)∧W.cell? ⟨w.heap.size,2,none⟩=some (.int .i64 time)) (go_keep) ((go_at_call 93;refine (HLG.out _ (by first | exact (Below.refl _ _).drew | exact Below.refl _ _)).mono ?_;rintro e w3 ⟨vn,ln,rfl,hn3,hnq,bn⟩;have b3:Below wr.heap.size wr w3:=(Below.refl _ wr).drew.trans bn;have k5:=(cell_bel b3 ⟨eb,5,none⟩ hze).trans e5;have k0:=(cell_bel b3 ⟨w.heap.size,0,none⟩ hzw).trans r0;have k1:=(cell_bel b3 ⟨w.heap.size,1,none⟩ hzw).trans r1;have k2:=(cell_bel b3 ⟨w.heap.size,2,none⟩ hzw).trans r2;have HN3:=hid (And.intro hn3 (And.intro hnq b3));clear hn3 hnq bn b3))
            have HJ3:=hid (hi.out.below HN3.out.2.2)
            obtain⟨an,cn,rfl,hcn,hcm⟩:=HN3.out.1.slice
            unfold maxLen at hcm
            have hlnb:ln.length≤1:=by
             have h1:=congrArg List.length HN3.out.2.1
             rw[List.length_map] at h1
             have h2:=En.longer_le P [⟨xs,xo,xf⟩] ⟨off,kind,time⟩ step
             simp at h2
             omega
            have HBK:Hid (En.fromOld P ((old.map Prod.fst).drop (ii+1)) ⟨off,kind,time⟩ step sN (En.puts qi (ln.map Prod.fst))=qn):=by
             unfold Hid
             rw[← hfo.out,drop_of_get HG.out,HN3.out.2.1]
             show _=En.fromOld P _ _ step sN (if xs=sN then _ else qi)
             rw[if_pos HS2.out]
            have HNB2:Hid ((En.puts qi (ln.map Prod.fst)).length≤900000000):=by
             have h1:=En.fromOld_ge P ((old.map Prod.fst).drop (ii+1)) ⟨off,kind,time⟩ step sN (En.puts qi (ln.map Prod.fst))
             rw[HBK.out] at h1
             exact Nat.le_trans h1 (Nat.le_trans HGO.out.2 HNB.out.1)
            clear r0 r1 r2 k0 k1 k2 k5 e5 g0 hst' HLG hsl
            go_wp2
            go_loopw [8,17] (fun l i wi=>∃(jj:Nat) (v:Value) (lj:List RV) (qj:List En.Rn),jj≤ln.length∧i=.int .i64 jj∧l=v∧Hid (ERel F w3 wi v lj qj)∧Hid (En.puts qj ((ln.map Prod.fst).drop jj)=En.puts qi (ln.map Prod.fst))) (fun _ i _=>ln.length - (intOf i).toNat)
            case atStart=>exact⟨0,_,_,_,Nat.zero_le _,rfl,rfl,hid ⟨HJ3.out.runs,HJ3.out.eq,Below.refl _ _⟩,rfl⟩
            case round=>
             obtain⟨jj,vj,lj,qj,hjj,rfl,rfl,hj,hpu⟩:=hrel
             obtain⟨aj,cj,rfl,-,-⟩:=hj.out.runs.slice
             by_cases hlt2:jj < ln.length
             ·obtain⟨bb2,oo2,hbb2,hbz2,g0,g1,g2⟩:=(HN3.out.1.below hj.out.bel).get hlt2
              cases hbb2
              have hmem:ln[jj]∈ln:=List.getElem_mem hlt2
              have HOF2:=hid ((HN3.out.1.below hj.out.bel).offs _ hmem)
              have hget:(ln.map Prod.fst)[jj]?=some ln[jj].1:=by simp[hlt2]
              obtain⟨ar,cr,hvr,-,-⟩:=RowAt.slice HOF2.out
              rw[hvr] at g1
              have hPut:=rPut_any F _ lj ln[jj] wr (fun b hb=>HF.out b (Nat.le_trans HAL.out.size (Nat.le_trans HJ3.out.bel.size (Nat.le_trans hj.out.bel.size hb)))) hj.out.runs HOF2.out (by
               have h1:=En.puts_ge qj ((ln.map Prod.fst).drop jj)
               rw[hpu.out] at h1
               have h2:=hj.out.len
               have:=HNB2.out
               omega)
              rw[hvr] at hPut
              have HPut:=hid hPut
              generalize ln[jj]=rr at g0 g1 g2 hget hvr HOF2 HPut
              have HG2:=hid hget
              clear hPut hget hmem hvr
              go_wp2_with (go_at_call 94;refine HPut.out.mono ?_;rintro e w4 ⟨v4,l4,rfl,hr4,hq4,b4⟩;have H4:=hid (And.intro hr4 (And.intro hq4 b4));clear hr4 hq4 b4)
              go_roundw
              case rel=>
               refine⟨jj+1,_,l4,En.put qj rr.1,by omega,by go_num,rfl,hid ⟨H4.out.1,by rw[H4.out.2.1,hj.out.eq],hj.out.bel.trans (H4.out.2.2.mono hj.out.bel.size)⟩,?_⟩
               unfold Hid
               rw[← hpu.out,drop_of_get HG2.out]
               rfl
              case measure=>simp[intOf];omega
             ·have hqj:qj=En.puts qi (ln.map Prod.fst):=by
               have h1:=hpu.out
               rw[List.drop_eq_nil_of_le (by simpa using hlt2)] at h1
               exact h1
              have HQJ:=hid hqj
              clear hqj
              go_wp2
              go_roundw
              case rel=>exact⟨ii+1,_,lj,_,by omega,by go_num,rfl,hid ⟨hj.out.runs,hj.out.eq.trans HQJ.out,HJ3.out.bel.trans (hj.out.bel.mono HJ3.out.bel.size)⟩,HBK⟩
              case measure=>simp[intOf];omega
           ·have hst':((xs:Int) == (sN:Int))=false:=by simp;omega
            have HS2:=hid hst2
            clear hst2
            go_wp2
            go_roundw
            case rel=>
             refine⟨ii+1,_,li,qi,by omega,by go_num,rfl,hi,?_⟩
             unfold Hid
             rw[← hfo.out,drop_of_get HG.out]
             show _=En.fromOld P _ _ step sN (if xs=sN then _ else qi)
             rw[if_neg HS2.out]
            case measure=>simp[intOf];omega
          ·have hqi:qi=qn:=by
            have h1:=hfo.out
            rw[List.drop_eq_nil_of_le (by simpa using hlt)] at h1
            exact h1
           have HQI:=hid hqi
           clear hqi
           go_wp2
           go_roundw
           case rel=>exact⟨_,li,qn,_,rfl,by go_num,by omega,by omega,hid ⟨hi.out.runs,hi.out.eq.trans HQI.out,hi.out.bel⟩,hid HGO.out.1⟩
           case measure=>simp[intOf];omega
     ·have hsI:sI=(step:Int)+1:=by omega
      have HQR:=hid (ho.out.at2 hsI)
      go_wp2
      go_ret
      exact⟨_,l',rfl,hr.out.runs,hr.out.eq.trans (HQR.out.symm.trans HRR.out.symm),HAL.out.trans (hr.out.bel.mono HAL.out.size)⟩
  ·have hne:(sk != kind)=true:=by simpa using hsame
   have HE:Hid (En.endsF P D (old.map Prod.fst) (f+1) step k=[]):=by
    unfold Hid En.endsF
    rw[HX.out.1]
    simp only[]
    rw[if_pos (by rw[HX.out.2.1];simpa using hsame)]
   clear hsame
   go_wp2
   go_quiet (fail)
   revert nq;intro n1
   go_wp2
   go_ret
   rw[HE.out]
   refine⟨_,[],rfl,⟨⟨rfl,Or.inl ⟨rfl,rfl⟩⟩,by simp⟩,rfl,bel_drewN (HAL.out) _⟩
end Go.Proofs.YtfldcmdhneegmaaGreatDoor

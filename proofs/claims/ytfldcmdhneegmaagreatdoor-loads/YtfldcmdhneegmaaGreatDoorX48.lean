import Derived.Lib.ConvBytes
import Derived.Test.YtfldcmdhneegmaaGreatDoorX47
import Derived.Test.YtfldcmdhneegmaaGreatDoorX29
set_option maxHeartbeats 4000000
set_option maxRecDepth 1000000
namespace Go.Proofs.YtfldcmdhneegmaaGreatDoor
open Go.RowKit Go.Lib
theorem bytesWorld_below (w:World)(e:TypeId)(s:ByteArray):Below w.heap.size w (bytesWorld w e s):=
 ⟨rfl,rfl,rfl,by rw[bytesWorld_size];omega,fun i hi=>bytesWorld_at_old w e s i hi⟩
theorem bytes_of_text (w:World)(l:List UInt8)(hl:l.length≤1000000):BytesAt (fun x=>x=w.heap.size) (bytesWorld w 5 ⟨l.toArray⟩) (.slice (some ⟨w.heap.size,0,none⟩) l.length (grownCap w l.length 0 5)) l:=by
 have hs:(⟨l.toArray⟩:ByteArray).size=l.length:=by simp[ByteArray.size]
 refine⟨by simp[byteCells],Or.inr ⟨w.heap.size,0,_,rfl,rfl,by rw[bytesWorld_size];omega,grownCap_ge w _ _ _,grownCap_le_maxLen w _ _ _ (by unfold maxLen;omega),fun j u hj=>?_⟩⟩
 have hjl:j < l.length:=by
  have:=(List.getElem?_eq_some_iff.1 hj).1
  simpa [byteCells] using this
 have:=bytesWorld_cell w 5 ⟨l.toArray⟩ j (by rw[hs];exact hjl)
 simp[byteCells,hjl] at hj
 subst hj
 simp only[Nat.zero_add]
 rw[this]
 simp[hjl]
theorem own_text {w:World}{base:Nat}{v:Value}{l:List UInt8}(h:w.ownsRow base 5 1 v l.length (byteCells l))(h0:0 < l.length):(convert 25 9 v).run Tryz.prog w=.ok (.string ⟨l.toArray⟩) w:=by
 have hv:BytesAt (fun _=>True) w v l:=(RowAt.ofOwn h).mono (fun _ _ _=>trivial)
 refine hv.text ?_
 intro e
 subst e
 obtain⟨ao,cap,he⟩:=own_slice h
 injection he with h1 h2 h3
 omega
theorem DLoadEnd.no {l:List UInt8}{w w':World}{e:Ending}(h:DLoadEnd l w e w')(hn:Fr.dLoad l=none):Below w.heap.size w w'∧e=.returned (.pointer none):=by
 rcases h.2 with ⟨-,h2⟩ | ⟨s,b,h2,-⟩
 ·exact⟨h.1,h2⟩
 ·rw[hn] at h2;cases h2
theorem DLoadEnd.yes {l:List UInt8}{w w':World}{e:Ending}{s:Fr.Stt}(h:DLoadEnd l w e w')(hn:Fr.dLoad l=some s):Below w.heap.size w w'∧∃b,e=.returned (.pointer (some ⟨b,0,none⟩)):=by
 rcases h.2 with ⟨h2,-⟩ | ⟨s,b,-,h2⟩
 ·rw[hn] at h2;cases h2
 ·exact⟨h.1,b,h2⟩
theorem EngNew.peng {n:Nat}{w1 w':World}{eb:Nat}{s:Fr.Stt}{vs vq vr:Value}{A:List RV}(h:EngNew n w1 eb s vs vq vr A)(hb:Below w1.heap.size w1 w'):PEng (fun b=>n≤b∧b < w1.heap.size) w' eb ⟨s.steps,s.win⟩ s.wm s.nx vs vq vr s.Q A:=by
 have hge:=h.ge
 have hlt:=lt_of_block h.blk
 obtain⟨m,s1,s2,s3⟩:=h.row
 refine⟨(hb.block eb hlt).trans h.blk,⟨hge,hlt⟩,?_,own_mono (own_below s2 hb) (Nat.zero_le _),?_,?_,?_,?_⟩
 ·exact RowAt.below (RowAt.mono s1 (fun b h1 h2=>⟨⟨h2.1,h1⟩,h2.2.1⟩)) hb
 ·intro g hg
  obtain⟨h1,c,fz,h2⟩:=own_block s2 g hg
  exact⟨by omega,lt_of_block h2⟩
 ·intro b h1 h2
  have h3:=(own_block s2 b h2).1
  rcases s1.2 with ⟨h4,-⟩ | ⟨b',o,cap,h4,h5,-⟩
  ·rw[h4] at h1;cases h1
  ·rw[h4] at h1
   cases h1
   dsimp only at h3
   omega
 ·have hr:=RowAt.ofOwn h.runs
  refine⟨hr.1,?_⟩
  rcases hr.2 with h0 | ⟨g,o,cap,hv,h1,h2,h3,h4,h5⟩
  ·exact Or.inl h0
  ·have hv':vr.ownBlock=some g:=by rw[hv];rfl
   obtain⟨h6,c,fz,h7⟩:=own_block h.runs g hv'
   exact Or.inr ⟨g,o,cap,hv,⟨⟨h6,h2⟩,c,fz,(hb.block g h2).trans h7⟩,Nat.lt_of_lt_of_le h2 hb.size,h3,h4,fun j u hj=>(cell_bel hb ⟨g,o+j,none⟩ h2).trans (h5 j u hj)⟩
 ·intro x hx
  have hr:=RowAt.ofOwn (h.offs x hx)
  refine⟨hr.1,?_⟩
  rcases hr.2 with h0 | ⟨g,o,cap,hv,h1,h2,h3,h4,h5⟩
  ·exact Or.inl h0
  ·have hv':x.2.ownBlock=some g:=by rw[hv];rfl
   obtain⟨h6,c,fz,h7⟩:=own_block (h.offs x hx) g hv'
   exact Or.inr ⟨g,o,cap,hv,⟨⟨h6,h2⟩,c,fz,(hb.block g h2).trans h7⟩,Nat.lt_of_lt_of_le h2 hb.size,h3,h4,fun j u hj=>(cell_bel hb ⟨g,o+j,none⟩ h2).trans (h5 j u hj)⟩
theorem saved_back {n:Nat}{w1 w':World}{sb eb:Nat}{l:List UInt8}{s:Fr.Stt}{vs vq vr:Value}{A:List RV}(hl:l.length≤65536)(hs:Fr.loadOf l=some s)(h:EngNew n w1 eb s vs vq vr A)(hb:Below w1.heap.size w1 w')(hsb:w'.heap[sb]?=some (.cells #[.pointer (some ⟨eb,0,none⟩)] 74 (0,0)))(hT:Pow10 w') :
  Calls Tryz.prog 13 #[.pointer (some ⟨sb,0,none⟩)] w' fun e w2=>∃v,e=.returned v∧w2.ownsRow w'.heap.size 5 1 v l.length (byteCells l)∧Below w'.heap.size w' w2:=by
 obtain⟨-,D,h1,h2,h3,h4,h5⟩:=Fr.loadOf_some (by omega) hs
 have hm:=h.map
 have l4:=D.fine.l4
 have n1:=D.n1
 have w1':=D.w1
 have w0':=D.w0
 have ok:SvOk ⟨s.steps,s.win⟩ s.wm s.nx s.Q (A.map Prod.fst):=by
  rw[hm]
  refine⟨D.fine,(Fr.inOrd_of_pair h3).heap,h4,D.q12,fun e he=>?_,D.w0,D.w1,by omega,by omega,D.a24,fun x hx=>?_,?_⟩
  ·have k:=D.evs e he
   have k1:=k.o0
   have k2:=k.o1
   have k3:=k.k0
   have k4:=k.k1
   have k5:=k.t0
   have k6:=k.t1
   exact⟨k1,by omega,k3,by omega,by omega,k6⟩
  ·have k:=D.run x hx
   have k1:=k.st
   have k2:=k.t0
   have k3:=k.t1
   exact⟨by omega,k2,by omega,fun o ho=>⟨(k.offs o ho).1,by have:=(k.offs o ho).2.1;omega⟩⟩
  ·show (En.stateB (Pl.text s.steps s.win) s.wm s.nx s.Q s.R).length≤9000000
   rw[h1,List.length_take]
   omega
 refine (sSave_any _ sb eb ⟨s.steps,s.win⟩ s.wm s.nx vs vq vr s.Q A w' hsb (h.peng hb) ok hT).mono ?_
 rintro e w2 ⟨v,rfl,k1,k2⟩
 rw[hm] at k1
 rw[h2] at k1
 exact⟨v,rfl,k1,k2⟩
theorem loads_any (s:ByteArray)(w:World)(hE:EnvS w)(hT:Pow10 w)(hm:s.size≤9223372036854775807) :
  Calls Tryz.prog 5 #[.string s] w fun e w'=>e=.returned (.bool true)∧Below w.heap.size w w':=by
 by_cases h1:65536 < s.size
 ·have h1':(65536:Int) < (s.size:Int):=by omega
  clear hE hT
  go_enter Tryz.func5,Tryz.ntmps5
  go_wp2
  go_ret
  exact⟨rfl,Below.refl _ _⟩
 ·obtain⟨l,rfl⟩:∃l:List UInt8,s=⟨l.toArray⟩:=⟨s.data.toList,by cases s;simp⟩
  have hsa:(⟨l.toArray⟩:ByteArray).size=l.length:=by simp[ByteArray.size]
  rw[hsa] at h1
  have hd1:decide ((65536:Int) < (l.length:Int))=false:=decide_eq_false (by omega)
  have hc1:=fun W=>Lib.run_convert_string_bytes (P:=Tryz.prog) W 9 25 5 ⟨l.toArray⟩ Tryz.underlying9 Tryz.underlying25 Tryz.underlying5
  have hal:l.length≤65536:=by omega
  have hbA:=bytesWorld_below w 5 ⟨l.toArray⟩
  have hrow:BytesAt (fun g=>g < (bytesWorld w 5 ⟨l.toArray⟩).heap.size) (bytesWorld w 5 ⟨l.toArray⟩) (.slice (some ⟨w.heap.size,0,none⟩) l.length (grownCap w l.length 0 5)) l:=(bytes_of_text w l (by omega)).mono (fun i h _=>h)
  have HR:=hid hrow
  have HBA:=hid hbA
  have HE:=hid hE
  have HT:=hid hT
  have HRD:Hid (∀W,Below w.heap.size w W→Calls Tryz.prog 12 #[.string ⟨l.toArray⟩] W (DLoadEnd l W)):=fun W hW=>rLoad_any l W hal (hE.below hW).letters (hE.below hW).dec
  clear hrow hbA hE hT h1
  cases hL:Fr.loadOf l with
  | none=>
   have HD:=hid ((Fr.load_none (by omega)).1 hL)
   have HSL:=hid (sLoad_no _ l _ HR.out (by omega) hL (HE.out.below HBA.out).letters (HT.out.below HBA.out) (HE.out.below HBA.out).err)
   clear hL
   go_enter Tryz.func5,Tryz.ntmps5
   go_wp2_with (first
    | (go_at_call 11;refine HSL.out.mono ?_;rintro e w1 ⟨rfl,hb1⟩;have hct:=BytesAt.text (HR.out.below hb1) (by simp);have H1:=hid (HBA.out.trans (hb1.mono HBA.out.size));clear hb1)
    | (go_at_call 12;refine (HRD.out _ H1.out).mono ?_;rintro e w2 hend;obtain⟨hb2,rfl⟩:=hend.no HD.out;have H2:=hid (H1.out.trans (hb2.mono H1.out.size));clear hb2))
   go_ret
   exact⟨by simp,H2.out⟩
  | some st=>
   have HSv:=hid hL
   obtain⟨sd,hsd⟩:∃sd,Fr.dLoad l=some sd:=⟨_,(Fr.loadOf_some (by omega) hL).1⟩
   have HD:=hid hsd
   have HSL:=hid (sLoad_yes _ l st _ HR.out (by omega) hL (HE.out.below HBA.out).letters (HT.out.below HBA.out))
   have h5:0 < l.length:=by
    unfold Fr.loadOf at hL
    cases e:Fr.sound l 83 with
    | none=>rw[e] at hL;cases hL
    | some c=>have:=Fr.sound_len e;omega
   clear hL hsd
   go_enter Tryz.func5,Tryz.ntmps5
   go_wp2_with (go_at_call 11;fail)
   refine HSL.out.mono ?_
   rintro e w0 ⟨w1,eb,vs,vq,vr,A,rfl,rfl,hN,hb1⟩
   have hb0:Below w1.heap.size w1 (w1.alloc (.cells #[.pointer (some ⟨eb,0,none⟩)] 74)):=(Below.refl _ _).alloc (Nat.le_refl _) _
   have hsb:(w1.alloc (.cells #[.pointer (some ⟨eb,0,none⟩)] 74)).heap[w1.heap.size]?=some (.cells #[.pointer (some ⟨eb,0,none⟩)] 74 (0,0)):=heap_alloc_new w1 _
   have hb01:Below (bytesWorld w 5 ⟨l.toArray⟩).heap.size (bytesWorld w 5 ⟨l.toArray⟩) (w1.alloc (.cells #[.pointer (some ⟨eb,0,none⟩)] 74)):=hb1.trans (hb0.mono hb1.size)
   have hct:=BytesAt.text (HR.out.below hb01) (by simp)
   have H1:=hid (HBA.out.trans (hb01.mono HBA.out.size))
   have HN:=hid hN
   have HB0:=hid hb0
   have HSB:=hid hsb
   clear hb1 hb0 hsb hb01 hN
   generalize w1.alloc (.cells #[.pointer (some ⟨eb,0,none⟩)] 74)=W1 at *
   go_wp2_with (go_at_call 12;fail)
   refine (HRD.out _ H1.out).mono ?_
   rintro e w2 hend
   obtain⟨hb2,rb,rfl⟩:=hend.yes HD.out
   have H2:=hid (H1.out.trans (hb2.mono H1.out.size))
   have HSS:=hid (saved_back hal HSv.out HN.out (HB0.out.trans (hb2.mono HB0.out.size)) ((hb2.block _ (lt_of_block HSB.out)).trans HSB.out) (HT.out.below H2.out))
   clear hb2
   go_wp2_with (go_at_call 13;fail)
   refine HSS.out.mono ?_
   rintro e w3 ⟨v,rfl,ho,hb3⟩
   have hct2:=own_text ho h5
   obtain⟨ao,cp1,rfl⟩:=own_slice ho
   have H3:=hid (H2.out.trans (hb3.mono H2.out.size))
   clear hb3 ho
   go_wp2
   go_ret
   exact⟨by simp,H3.out⟩
end Go.Proofs.YtfldcmdhneegmaaGreatDoor

import Derived.Test.YtfldcmdhneegmaaGreatDoorX21
import Derived.Deep.RegionWith
import Derived.Deep.RegionHeld3
import Derived.Lib.SliceRun
import Derived.Lib.AppendStr
set_option maxHeartbeats 4000000
set_option maxRecDepth 1000000
namespace Go.Proofs.YtfldcmdhneegmaaGreatDoor
open Go.RowKit Go.Lib
def OpenEnd (F:Nat→Prop)(l:List UInt8)(kind:UInt8)(w:World)(e:Ending)(w':World):Prop:=
 Below w.heap.size w w' ∧
  match Fr.sound l kind with
  | some _=>∃v',e=.returned (.pointer (some ⟨w.heap.size,0,none⟩))∧RdAt w' w.heap.size v' 1∧BytesAt F w' v' (l.take (l.length - 4))
  | none=>BytesPanic e
theorem openEnd_no {F:Nat→Prop}{l:List UInt8}{kind:UInt8}{w w':World}{e:Ending}(h:Fr.sound l kind=none)(hb:Below w.heap.size w w')(he:BytesPanic e):OpenEnd F l kind w e w':=by
 unfold OpenEnd
 rw[h]
 exact⟨hb,he⟩
theorem ended_here {G:Prop}(P:Program)(w:World)(g:G)(_:wpAny P .any #[] (fun _ _ _=>True) 0 #[] ⟨#[],[]⟩ w):G:=g
theorem fOpen_any (F:Nat→Prop)(v:Value)(l:List UInt8)(kind:UInt8)(w:World)(hv:BytesAt F w v l)(hl:l.length≤1000000) :
  Calls Tryz.prog 112 #[.int .u8 kind.toNat,v] w (OpenEnd F l kind w):=by
 obtain⟨ao,cap,rfl,hcap,-⟩:=RowAt.slice hv
 by_cases h5:l.length < 5
 ·have hn:Fr.sound l kind=none:=by unfold Fr.sound;rw[if_neg (by rintro⟨h,-⟩;omega)]
  have HX:=hid hn
  have h4:decide ((4:Int) < (l.length:Int))=false:=decide_eq_false (by omega)
  have h4':decide ((0:Int) < (l.length:Int) - 4)=false:=decide_eq_false (by omega)
  clear hn hv
  go_enter Tryz.func112,Tryz.ntmps112
  go_wp2_with (go_at_call_of 113 (Value.bool false);refine (fNeed_false w.heap.size 0 _ _ (by simp)).mono ?_;rintro e w2 ⟨rfl,hw⟩;subst hw)
  exact⟨rfl,openEnd_no HX.out ((Below.refl _ _).alloc (Nat.le_refl _) _) ⟨_,_,rfl⟩⟩
 ·have h4:decide ((4:Int) < (l.length:Int))=true:=decide_eq_true (by omega)
  have h4':decide ((0:Int) < (l.length:Int) - 4)=true:=decide_eq_true (by omega)
  have hA:∀o,BytesAt F (w.alloc o) (.slice ao l.length cap) l:=fun o=>hv.below ((Below.refl _ _).alloc (Nat.le_refl _) _)
  obtain⟨b1,o1,rfl,c1⟩:=BytesAt.get (hA (.cells #[.slice none 0 0,.int .i64 0] 207)) (i:=0) (by omega)
  simp only[Nat.add_zero] at c1
  by_cases hk:l[0]=kind
  ·have hk':(((l[0]'(by omega)).toNat:Int) == (kind.toNat:Int))=true:=by rw[hk];simp
   have hS:Fr.sound l kind=if Fr.sum (l.take (l.length - 4))=l.drop (l.length - 4) then some ((l.take (l.length - 4)).drop 1) else none:=by
    have hh:l.head?=some kind:=by
     cases l with
     | nil=>simp at h5
     | cons b t=>simpa using hk
    unfold Fr.sound
    by_cases c:Fr.sum (l.take (l.length - 4))=l.drop (l.length - 4)
    ·rw[if_pos c,if_pos ⟨by omega,hh,c⟩]
    ·rw[if_neg c,if_neg (fun h=>c h.2.2)]
   obtain⟨a1,p1,hs1,hv1⟩:=hv.head ((l.length:Int) - 4) (l.length - 4) (by omega) (by omega) hcap
   have HV1:=hid hv1
   have HC1:=hid (fSum_any F _ (l.take (l.length - 4)) (w.alloc (.cells #[.slice none 0 0,.int .i64 0] 207)) (hv1.below ((Below.refl _ _).alloc (Nat.le_refl _) _)))
   have HC2:=hid (fSumOf_any F _ l (w.alloc (.cells #[.slice none 0 0,.int .i64 0] 207)) (hA _) (by omega) hl)
   clear hv hA hk hv1
   have c2:(w.alloc (.cells #[.slice none 0 0,.int .i64 0] 207)).heap[w.heap.size]?=some (.cells #[.slice none 0 0,.int .i64 0] 207 (0,0)):=heap_alloc_new w _
   have hB2:Below w.heap.size w (w.alloc (.cells #[.slice none 0 0,.int .i64 0] 207)):=(Below.refl _ _).alloc (Nat.le_refl _) _
   have C2:=hid c2
   have HB2:=hid hB2
   clear c2 hB2
   have hd4:(l.drop (l.length - 4)).length=4:=by rw[List.length_drop];omega
   have hsi:=Fr.sum_iff (m:=l.take (l.length - 4)) hd4
   by_cases hsum:Fr.sum (l.take (l.length - 4))=l.drop (l.length - 4)
   ·rw[if_pos hsum] at hS
    have hsd:((Fr.sumN (l.take (l.length - 4)):Int) == (Fr.val (l.drop (l.length - 4)):Int))=true:=by rw[hsi.1 hsum];simp
    have HS:=hid hS
    clear hS hsum hsi hd4
    go_enter Tryz.func112,Tryz.ntmps112
    go_wp2_with (first
     | (go_at_call 128;refine HC1.out.mono ?_;rintro e w3 ⟨rfl,hw⟩;subst hw)
     | (go_at_call 183;refine HC2.out.mono ?_;rintro e w3 ⟨rfl,hw⟩;subst hw)
     | (go_at_call_of 113 (Value.bool true);refine (fNeed_true w.heap.size _ _).mono ?_;rintro e w2 ⟨rfl,hw⟩;subst hw))
    go_ret
    unfold OpenEnd
    rw[HS.out]
    exact⟨(Below.refl _ _).alloc (Nat.le_refl _) _,_,rfl,heap_alloc_new w _,HV1.out.below ((Below.refl _ _).alloc (Nat.le_refl _) _)⟩
   ·rw[if_neg hsum] at hS
    have hsd:((Fr.sumN (l.take (l.length - 4)):Int) == (Fr.val (l.drop (l.length - 4)):Int))=false:=by
     simp
     intro e
     exact hsum (hsi.2 (by omega))
    have HS:=hid hS
    clear hS hsum hsi hd4
    go_enter Tryz.func112,Tryz.ntmps112
    go_wp2_with (first
     | (go_at_call 128;refine HC1.out.mono ?_;rintro e w3 ⟨rfl,hw⟩;subst hw)
     | (go_at_call 183;refine HC2.out.mono ?_;rintro e w3 ⟨rfl,hw⟩;subst hw)
     | (go_at_call_of 113 (Value.bool true);refine (fNeed_true w.heap.size _ _).mono ?_;rintro e w2 ⟨rfl,hw⟩;subst hw)
     | (go_at_call_of 113 (Value.bool false);refine (fNeed_false w.heap.size 0 _ _ (by simp)).mono ?_;rintro e w4 ⟨rfl,hw⟩;subst hw))
    exact⟨rfl,openEnd_no HS.out HB2.out ⟨_,_,rfl⟩⟩
  ·have hk':(((l[0]'(by omega)).toNat:Int) == (kind.toNat:Int))=false:=by
    simp
    intro e
    exact hk (UInt8.toNat_inj.1 (by omega))
   have hn:Fr.sound l kind=none:=by
    unfold Fr.sound
    rw[if_neg]
    rintro⟨-,h,-⟩
    apply hk
    cases l with
    | nil=>simp at h5
    | cons b t=>simpa using h
   have HX:=hid hn
   clear hn hv hA hk
   go_enter Tryz.func112,Tryz.ntmps112
   go_wp2_with (first
    | (go_at_call_of 113 (Value.bool true);refine (fNeed_true w.heap.size _ _).mono ?_;rintro e w2 ⟨rfl,hw⟩;subst hw)
    | (go_at_call_of 113 (Value.bool false);refine (fNeed_false w.heap.size 0 _ _ (by simp)).mono ?_;rintro e w2 ⟨rfl,hw⟩;subst hw))
   exact⟨rfl,openEnd_no HX.out ((Below.refl _ _).alloc (Nat.le_refl _) _) ⟨_,_,rfl⟩⟩
def WrAt (base:Nat)(w:World)(b:Nat)(l:List UInt8):Prop:=
 ∃v,w.heap[b]?=some (.cells #[v] 220 (0,0))∧w.ownsRow base 5 1 v l.length (byteCells l)∧base≤b
theorem or128:∀x:Fin 256,x.val ||| 128=x.val % 128+128:=by decide
theorem or_byte (u:Nat):bits .or .u8 ((u:Int) % 256) 128=((u % 128+128:Nat):Int):=by
 have h1:=u8_or_nat (u % 256) 128 (by omega) (by omega)
 have h2:=or128 ⟨u % 256,by omega⟩
 simp only at h2
 rw[h2,show u % 256 % 128=u % 128 by omega] at h1
 rw[← h1]
 rfl
theorem WrAt.put {base b:Nat}{w w1 w2:World}{l:List UInt8}{v v':Value}{x:UInt8}{o:Obj}(hbk:w1.heap[b]?=some (.cells #[v] 220 (0,0)))(hown:w1.ownsRow base 5 1 v l.length (byteCells l))(hbb:base≤b)(hb1:Below base w w1)(hbw:base≤w.heap.size)
  (hown':w2.ownsRow base 5 1 v' (l.length+1) (byteCells l++[.int .u8 x.toNat])) (hg:(w1.alloc o).grownBy w2 v.ownBlock) :
  w2.heap[b]?=some (.cells #[v] 220 (0,0))∧WrAt base (w2.setCell ⟨b,0,none⟩ v') b (l++[x])∧Below base w (w2.setCell ⟨b,0,none⟩ v'):=by
 have hlt:b < w1.heap.size:=lt_of_block hbk
 have hne:some b≠v.ownBlock:=fun e=>by
  obtain⟨-,c,fz,h⟩:=own_block hown b e.symm
  rw[hbk] at h
  cases h
 have hb2:w2.heap[b]?=some (.cells #[v] 220 (0,0)):=by
  rw[hg.block b (by simp;omega) hne,Below.heap_alloc _ _ _ hlt]
  exact hbk
 have hne':∀g,v'.ownBlock=some g→g≠b:=fun g e h=>by
  obtain⟨-,c,fz,h2⟩:=own_block hown' g e
  rw[h,hb2] at h2
  cases h2
 refine⟨hb2,⟨v',one_set hb2 v',?_,hbb⟩,?_⟩
 ·have e1:(l++[x]).length=l.length+1:=by simp
  have e2:byteCells (l++[x])=byteCells l++[.int .u8 x.toNat]:=by simp[byteCells]
  rw[e1,e2]
  exact ownsRow_setCell_other hown' (a:=⟨b,0,none⟩) (fun e=>hne' b e rfl) _
 ·exact ((hb1.alloc (Nat.le_trans hbw hb1.size) o).grown hg (by have:=hb1.size;simp;omega) (fun k hk=>(own_block hown k hk).1)).setCell hbb _
theorem own_one {W:World}{g base:Nat}{e:TypeId}{x:Value}(h:W.heap[g]?=some (.cells #[x] e (0,0)))(hb:base≤g):W.ownsRow base e 1 (.slice (some ⟨g,0,none⟩) 1 1) 1 [x]:=
 ⟨by simp,Or.inr ⟨g,1,#[x],rfl,hb,h,Nat.le_refl _,by unfold maxLen;omega,by simp,by simp⟩⟩
theorem newWriter_any (kind:UInt8)(w:World) :
  Calls Tryz.prog 75 #[.int .u8 kind.toNat] w fun e w'=>∃b,e=.returned (.pointer (some ⟨b,0,none⟩))∧WrAt w.heap.size w' b [kind]∧Below w.heap.size w w':=by
 go_enter Tryz.func75,Tryz.ntmps75
 go_wp2
 go_ret
 refine⟨w.heap.size+1,rfl,⟨_,new_at (by simp),own_one ((Below.heap_alloc _ _ _ (by simp)).trans (new_at rfl)) (Nat.le_refl _),by omega⟩,((Below.refl _ w).alloc (Nat.le_refl _) _).alloc (by simp) _⟩
theorem grown_alloc {w w':World}{o:Obj}{x:Option Nat}(h:(w.alloc o).grownBy w' x):w.grownBy w' x:=
 ⟨h.os,h.tape,h.output,Nat.le_trans (by simp) h.size,fun k hk hne=>(h.block k (by simp;omega) hne).trans (Below.heap_alloc _ _ _ hk)⟩
theorem be4_row {F:Nat→Prop}{w:World}{b n:Nat}(hn:n < 4294967296)(hF:F b)(h:w.heap[b]?=some (.cells #[.int .u8 ((n:Int) / 16777216),.int .u8 ((n:Int) / 65536 % 256),.int .u8 ((n:Int) / 256 % 256),.int .u8 ((n:Int) % 256)] 5 (0,0))) :
  BytesAt F w (.slice (some ⟨b,0,none⟩) 4 4) (Fr.be4 n):=by
 have e:byteCells (Fr.be4 n)=[.int .u8 ((n:Int) / 16777216),.int .u8 ((n:Int) / 65536 % 256),.int .u8 ((n:Int) / 256 % 256),.int .u8 ((n:Int) % 256)]:=by
  have h0:((UInt8.ofNat (n / 16777216)).toNat:Int)=(n:Int) / 16777216:=by rw[u8_nat];omega
  have h1:((UInt8.ofNat (n / 65536)).toNat:Int)=(n:Int) / 65536 % 256:=by rw[u8_nat];omega
  have h2:((UInt8.ofNat (n / 256)).toNat:Int)=(n:Int) / 256 % 256:=by rw[u8_nat];omega
  have h3:((UInt8.ofNat n).toNat:Int)=(n:Int) % 256:=by rw[u8_nat]
  unfold Fr.be4 byteCells
  simp only[List.map_cons,List.map_nil,h0,h1,h2,h3]
 unfold BytesAt
 rw[e]
 refine⟨rfl,Or.inr ⟨b,0,4,rfl,hF,lt_of_block h,Nat.le_refl _,by unfold maxLen;omega,fun j u hj=>?_⟩⟩
 match j,hj with
 | 0,hj=>simp only[List.getElem?_cons_zero,Option.some.injEq] at hj;subst hj;simp[World.cell?,h]
 | 1,hj=>simp only[List.getElem?_cons_succ,List.getElem?_cons_zero,Option.some.injEq] at hj;subst hj;simp[World.cell?,h]
 | 2,hj=>simp only[List.getElem?_cons_succ,List.getElem?_cons_zero,Option.some.injEq] at hj;subst hj;simp[World.cell?,h]
 | 3,hj=>simp only[List.getElem?_cons_succ,List.getElem?_cons_zero,Option.some.injEq] at hj;subst hj;simp[World.cell?,h]
 | j+4,hj=>simp at hj
theorem appendSum_any (base:Nat)(v:Value)(l:List UInt8)(n:Nat)(w:World)(hown:w.ownsRow base 5 1 v l.length (byteCells l))(hn:n < 4294967296)(hl:l.length≤100000000)(hbw:base≤w.heap.size) :
  Calls Tryz.prog 126 #[v,.int .u32 n] w fun e w'=>∃v',e=.returned v'∧w'.ownsRow base 5 1 v' (l.length+4) (byteCells l++byteCells (Fr.be4 n))∧w.grownBy w' v.ownBlock:=by
 obtain⟨i0,hi,hz0,hz1,hz2⟩:=info_parts Tryz.infoByteW
 have HO:=hid hown
 clear hown
 go_enter Tryz.func126,Tryz.ntmps126
 go_wp2_with (at_builtin;refine wpList_append_row rfl _ _ 25 rfl base 5 i0 (.int .u8 0) 1 1 Tryz.underlying25 hi hz0 hz1 hz2 rfl (by decide) _ _ _ rfl (HO.out.alloc _) (fun _=>True) _ 4 (byteCells (Fr.be4 n)) rfl (be4_row hn trivial (new_at rfl)) (oneCell_bytes _) (by unfold maxLen;omega) (by omega) (by simp;omega) ?_)
 intro v' w2 hown' hg
 have HB:=hid (And.intro hown' (grown_alloc hg))
 clear hown' hg
 go_wp2
 go_ret
 exact⟨_,rfl,HB.out.1,HB.out.2⟩
theorem WrAt.puts {base b:Nat}{w w1 w2:World}{l t:List UInt8}{v v':Value}(hbk:w1.heap[b]?=some (.cells #[v] 220 (0,0)))(hown:w1.ownsRow base 5 1 v l.length (byteCells l))(hbb:base≤b)(hb1:Below base w w1)(hbw:base≤w.heap.size)
  (hown':w2.ownsRow base 5 1 v' (l.length+t.length) (byteCells l++byteCells t)) (hg:w1.grownBy w2 v.ownBlock) :
  w2.heap[b]?=some (.cells #[v] 220 (0,0))∧WrAt base (w2.setCell ⟨b,0,none⟩ v') b (l++t)∧Below base w (w2.setCell ⟨b,0,none⟩ v'):=by
 have hlt:b < w1.heap.size:=lt_of_block hbk
 have hne:some b≠v.ownBlock:=fun e=>by
  obtain⟨-,c,fz,h⟩:=own_block hown b e.symm
  rw[hbk] at h
  cases h
 have hb2:w2.heap[b]?=some (.cells #[v] 220 (0,0)):=(hg.block b hlt hne).trans hbk
 have hne':∀g,v'.ownBlock=some g→g≠b:=fun g e h=>by
  obtain⟨-,c,fz,h2⟩:=own_block hown' g e
  rw[h,hb2] at h2
  cases h2
 refine⟨hb2,⟨v',one_set hb2 v',?_,hbb⟩,?_⟩
 ·have e1:(l++t).length=l.length+t.length:=by simp
  have e2:byteCells (l++t)=byteCells l++byteCells t:=by simp[byteCells]
  rw[e1,e2]
  exact ownsRow_setCell_other hown' (a:=⟨b,0,none⟩) (fun e=>hne' b e rfl) _
 ·exact (hb1.grown hg (Nat.le_trans hbw hb1.size) (fun k hk=>(own_block hown k hk).1)).setCell hbb _
theorem cloneB_any (F:Nat→Prop)(u:Value)(m:List UInt8)(w:World)(hu:BytesAt F w u m)(hne:u≠.slice none 0 0)(hm:m.length≤100000000) :
  Calls Tryz.prog 127 #[u] w fun e w'=>∃v',e=.returned v'∧w'.ownsRow w.heap.size 5 1 v' m.length (byteCells m)∧Below w.heap.size w w':=by
 obtain⟨i0,hi,hz0,hz1,hz2⟩:=info_parts Tryz.infoByteW
 obtain⟨ao,cap,rfl,-,-⟩:=RowAt.slice hu
 cases ao with
 | none=>
  exfalso
  rcases hu.2 with ⟨he,_⟩ | ⟨b,o,cap',he,_⟩
  ·exact hne he
  ·cases he
 | some a=>
  have HU:=hid hu
  have hnil:∀W,(binOp .eql 25 (.slice (some a) m.length cap) (.slice none 0 0)).run Tryz.prog W=.ok (.bool false) W:=fun W=>Lib.run_eql_slice_nil W _ _ (some a) _ _ _ _ Tryz.underlying25
  clear hu hne
  go_enter Tryz.func127,Tryz.ntmps127
  go_wp2_with (at_builtin;refine wpList_append_row rfl _ _ 25 rfl w.heap.size 5 i0 (.int .u8 0) 1 1 Tryz.underlying25 hi hz0 hz1 hz2 rfl (by decide) _ 0 [] rfl (own_nothing (new_at rfl) (Nat.le_refl _)) F _ m.length (byteCells m) rfl (BytesAt.below HU.out ((Below.refl _ _).alloc (Nat.le_refl _) _)) (oneCell_bytes _) (by unfold maxLen;omega) (by omega) (by simp) ?_)
  intro v' w2 hown' hg
  have hb2:Below w.heap.size w w2:=((Below.refl _ w).alloc (Nat.le_refl _) _).grown hg (by simp) (fun k hk=>by simp[Value.ownBlock] at hk;omega)
  have HB:=hid (And.intro hown' hb2)
  clear hown' hg hb2
  go_wp2
  go_ret
  refine⟨_,rfl,?_,HB.out.2⟩
  have:=HB.out.1
  simpa using this
theorem wFrame_any (base b:Nat)(l:List UInt8)(w:World)(h:WrAt base w b l)(h0:0 < l.length)(hl:l.length≤10000000) :
  Calls Tryz.prog 82 #[.pointer (some ⟨b,0,none⟩)] w fun e w'=>∃v,e=.returned v∧w'.ownsRow w.heap.size 5 1 v (Fr.framed l).length (byteCells (Fr.framed l))∧Below w.heap.size w w':=by
 obtain⟨v,hbk,hown,hbb⟩:=h
 obtain⟨c0,f0⟩:=one_cell hbk
 obtain⟨ao,cap,rfl⟩:=own_slice hown
 have hv:BytesAt (fun _=>True) w (.slice ao l.length cap) l:=(RowAt.ofOwn hown).mono (fun _ _ _=>trivial)
 have hne:(Value.slice ao l.length cap)≠.slice none 0 0:=by
  intro e
  injection e with h1 h2 h3
  omega
 have hblt:=lt_of_block hbk
 have HC:Hid (∀W,Below w.heap.size w W→Calls Tryz.prog 127 #[.slice ao l.length cap] W fun e w'=>∃v',e=.returned v'∧w'.ownsRow W.heap.size 5 1 v' l.length (byteCells l)∧Below W.heap.size W w'):=fun W hW=>cloneB_any (fun _=>True) _ l W (hv.below hW) hne (by omega)
 have HS:Hid (∀W,Below w.heap.size w W→Calls Tryz.prog 128 #[.slice ao l.length cap] W fun e w'=>e=.returned (.int .u32 (Fr.sumN l))∧w'=W):=fun W hW=>fSum_any (fun _=>True) _ l W (hv.below hW)
 have hs32:=Fr.sumN_lt l
 clear hv hown hne
 go_enter Tryz.func82,Tryz.ntmps82
 go_wp2
 go_region_held3 (fun W=>W.cell? ⟨b,0,none⟩=some (.slice ao l.length cap)) (go_keep) (first
  | (go_at_call 127;refine (HC.out _ (by first | exact Below.refl _ _ | exact (Below.refl _ _).drew | exact bel_drewN (Below.refl _ _) _)).mono ?_;rintro e w1 ⟨v1,rfl,ho,hb⟩;have c0':w1.cell? ⟨b,0,none⟩=some (.slice ao l.length cap):=(cell_bel hb ⟨b,0,none⟩ hblt).trans c0;have HB:=hid (And.intro ho hb);clear ho hb)
  | (go_at_call 128;refine (HS.out _ (by exact (bel_drewN (Below.refl _ w) _).trans HB.out.2)).mono ?_;rintro e w2 ⟨rfl,hw⟩;subst hw)
  | (go_at_call 126;refine (appendSum_any _ _ l (Fr.sumN l) _ HB.out.1 hs32 (by omega) HB.out.2.size).mono ?_;rintro e w3 ⟨v3,rfl,ho3,hg3⟩;have c3:w3.cell? ⟨b,0,none⟩=some (.slice ao l.length cap):=(World.cell?_of_block (a:=⟨b,0,none⟩) (hg3.block b (Nat.lt_of_lt_of_le hblt (by exact HB.out.2.size)) (fun e=>Nat.lt_irrefl _ (Nat.lt_of_lt_of_le hblt (own_block HB.out.1 b e.symm).1)))).trans c0';have HG:=hid (And.intro ho3 hg3);clear ho3 hg3))
 go_wp2
 go_ret
 refine⟨_,rfl,?_,?_⟩
 ·have h1:=HG.out.1
  have h2:(Fr.framed l).length=l.length+4:=by simp[Fr.framed,Fr.sum_length]
  have h3:byteCells (Fr.framed l)=byteCells l++byteCells (Fr.be4 (Fr.sumN l)):=by simp[Fr.framed,Fr.sum,byteCells]
  rw[h2,h3]
  exact h1
 ·exact ((Below.drew (Below.refl _ w)).trans HB.out.2).grown HG.out.2 HB.out.2.size (fun k hk=>(own_block HB.out.1 k hk).1)
end Go.Proofs.YtfldcmdhneegmaaGreatDoor

import Derived.Test.YtfldcmdhneegmaaGreatDoorX22
import Derived.Test.YtfldcmdhneegmaaGreatDoorX20
import Derived.Test.YtfldcmdhneegmaaGreatDoorX13
set_option maxHeartbeats 4000000
set_option maxRecDepth 1000000
namespace Go.Proofs.YtfldcmdhneegmaaGreatDoor
open Go.RowKit Go.Lib
def WKept (w w':World):Prop:=w.heap.size≤w'.heap.size∧∀(k:Nat) (c:Array Value) (t:TypeId) (fz:Nat × Nat),w.heap[k]?=some (Obj.cells c t fz)→t≠5→t≠220→w'.heap[k]?=some (Obj.cells c t fz)
theorem WKept.refl (w:World):WKept w w:=⟨Nat.le_refl _,fun _ _ _ _ h _ _=>h⟩
theorem WKept.trans {w w1 w2:World}(h:WKept w w1)(h':WKept w1 w2):WKept w w2:=⟨Nat.le_trans h.1 h'.1,fun k c t fz e h1 h2=>h'.2 k c t fz (h.2 k c t fz e h1 h2) h1 h2⟩
theorem WKept.below {w w':World}(h:Below w.heap.size w w'):WKept w w':=⟨h.size,fun k _ _ _ e _ _=>(h.block k (lt_of_block e)).trans e⟩
theorem WKept.puts {base b:Nat}{w1 w2:World}{l:List UInt8}{v v':Value}(hbk:w1.heap[b]?=some (.cells #[v] 220 (0,0)))(hown:w1.ownsRow base 5 1 v l.length (byteCells l))(hg:w1.grownBy w2 v.ownBlock):WKept w1 (w2.setCell ⟨b,0,none⟩ v'):=by
 have hs:=grown_set w2 b 0 v'
 refine⟨Nat.le_trans hg.size hs.size,fun k c t fz e h1 h2=>?_⟩
 have hlt:=lt_of_block e
 have hkb:k≠b:=fun e1=>by
  rw[e1,hbk] at e
  cases e
  exact h2 rfl
 have hkv:some k≠v.ownBlock:=fun e1=>by
  obtain⟨-,c',fz',e2⟩:=own_block hown k e1.symm
  rw[e] at e2
  cases e2
  exact h1 rfl
 rw[hs.block k (Nat.lt_of_lt_of_le hlt hg.size) (fun e1=>hkb (Option.some.inj e1)),hg.block k hlt hkv]
 exact e
theorem WKept.put {base b:Nat}{w1 w2:World}{l:List UInt8}{v v':Value}{o:Obj}(hbk:w1.heap[b]?=some (.cells #[v] 220 (0,0)))(hown:w1.ownsRow base 5 1 v l.length (byteCells l))(hg:(w1.alloc o).grownBy w2 v.ownBlock):WKept w1 (w2.setCell ⟨b,0,none⟩ v'):=
 WKept.puts hbk hown (grown_alloc hg)
theorem wNumber_k (base b:Nat)(l:List UInt8)(n:Nat)(w:World)(h:WrAt base w b l)(hn:n < 18446744073709551616)(hl:l.length≤100000000)(hbw:base≤w.heap.size) :
  Calls Tryz.prog 125 #[.pointer (some ⟨b,0,none⟩),.int .u64 n] w fun e w'=>e=.returned (.tuple #[])∧WrAt base w' b (l++Fr.num n)∧Below base w w'∧WKept w w':=by
 go_enter Tryz.func125,Tryz.ntmps125
 go_wp2
 go_loopw [1] (fun m wr=>∃(u:Nat) (acc:List UInt8),u < 18446744073709551616∧m=.int .u64 u∧Hid (acc++Fr.num u=l++Fr.num n∧WrAt base wr b acc∧Below base w wr∧WKept w wr)) (fun m _=>(intOf m).toNat)
 case atStart=>exact⟨n,l,hn,rfl,rfl,h,Below.refl _ _,WKept.refl _⟩
 case round=>
  obtain⟨u,acc,hu,rfl,hr⟩:=hrel
  have ha:acc.length≤100000010:=by
   have h1:=congrArg List.length hr.out.1
   have h2:=Fr.num_length64 hn
   rw[List.length_append,List.length_append] at h1
   omega
  obtain⟨v,hbk,hown,hbb⟩:=hr.out.2.1
  obtain⟨c0,f0⟩:=one_cell hbk
  obtain⟨i0,hi,hz0,hz1,hz2⟩:=info_parts Tryz.infoByteW
  by_cases h10:128≤u
  ·have h10':(128:Int)≤(u:Int):=by omega
   have hbo:=or_byte u
   obtain⟨xb,hxb,hx⟩:∃xb:UInt8,UInt8.ofNat (u % 128+128)=xb∧(xb.toNat:Int)=((u % 128+128:Nat):Int):=⟨_,rfl,by rw[Fr.toNat_ofNat (by omega)]⟩
   rw[← hx] at hbo
   have HXB:=hid hxb
   clear hx hxb
   have HR:=hid hr.out
   clear hr
   go_wp2_with (at_builtin;refine wpList_append_row rfl _ _ 25 rfl base 5 i0 (.int .u8 0) 1 1 Tryz.underlying25 hi hz0 hz1 hz2 rfl (by decide) _ _ _ rfl (hown.alloc _) (fun _=>True) _ 1 [.int .u8 xb.toNat] rfl (one_row (new_at rfl)) (by intro u hu;simp at hu;subst hu;rfl) (by unfold maxLen;omega) (by omega) (by have:=HR.out.2.2.1.size;simp;omega) ?_)
   intro v' w2 hown' hg
   obtain⟨hb2,hput,hbel⟩:=WrAt.put hbk hown hbb HR.out.2.2.1 hbw hown' hg
   obtain⟨d0,g0⟩:=one_cell hb2
   have hk2:=HR.out.2.2.2.trans (WKept.put (v':=v') hbk hown hg)
   obtain⟨a1,p1,rfl⟩:=own_slice hown'
   have HP:=hid (And.intro hput (And.intro hbel hk2))
   clear hown' hg hput hbel hk2
   go_wp2
   go_roundw
   case rel=>
    refine⟨u / 128,acc++[xb],by omega,by go_num,?_,HP.out.1,HP.out.2.1,HP.out.2.2⟩
    rw[← HR.out.1,Fr.num_great (n:=u) (by omega),HXB.out]
    simp
   case measure=>simp[intOf];omega
  ·have h10':¬ (128:Int)≤(u:Int):=by omega
   have hx:((UInt8.ofNat u).toNat:Int)=(u:Int):=by rw[Fr.toNat_ofNat (by omega)]
   have HX:=hid hx
   clear hx
   have HR:=hid hr.out
   clear hr
   go_wp2_with (at_builtin;refine wpList_append_row rfl _ _ 25 rfl base 5 i0 (.int .u8 0) 1 1 Tryz.underlying25 hi hz0 hz1 hz2 rfl (by decide) _ _ _ rfl (hown.alloc _) (fun _=>True) _ 1 [.int .u8 (u:Int)] rfl (one_row (new_at rfl)) (by intro u hu;simp at hu;subst hu;rfl) (by unfold maxLen;omega) (by omega) (by have:=HR.out.2.2.1.size;simp;omega) ?_)
   intro v' w2 hown' hg
   rw[← HX.out] at hown'
   obtain⟨hb2,hput,hbel⟩:=WrAt.put hbk hown hbb HR.out.2.2.1 hbw hown' hg
   obtain⟨d0,g0⟩:=one_cell hb2
   have hk2:=HR.out.2.2.2.trans (WKept.put (v':=v') hbk hown hg)
   obtain⟨a1,p1,rfl⟩:=own_slice hown'
   have HP:=hid (And.intro hput (And.intro hbel hk2))
   clear hown' hg hput hbel hk2
   go_wp2
   go_end0
   refine⟨rfl,?_,HP.out.2.1,HP.out.2.2⟩
   have:=HR.out.1
   rw[Fr.num_small (n:=u) (by omega)] at this
   rw[← this]
   exact HP.out.1
theorem wCount_k (base b:Nat)(l:List UInt8)(n:Nat)(w:World)(h:WrAt base w b l)(hn:n < 9223372036854775808)(hl:l.length≤100000000)(hbw:base≤w.heap.size) :
  Calls Tryz.prog 79 #[.pointer (some ⟨b,0,none⟩),.int .i64 n] w fun e w'=>e=.returned (.tuple #[])∧WrAt base w' b (l++Fr.num n)∧Below base w w'∧WKept w w':=by
 have HC:=hid (wNumber_k base b l n w h (by omega) hl hbw)
 clear h
 go_enter Tryz.func79,Tryz.ntmps79
 go_wp2_with (go_at_call 125;refine HC.out.mono ?_;rintro e w1 ⟨rfl,h1,h2⟩;have HB:=hid (And.intro h1 h2);clear h1 h2)
 go_end0
 exact⟨rfl,HB.out.1,HB.out.2⟩
theorem wMoment_k (base b:Nat)(l:List UInt8)(t:Int)(w:World)(h:WrAt base w b l)(h1:-9223372036854775808≤t)(h2:t < 9223372036854775808)(hl:l.length≤100000000)(hbw:base≤w.heap.size) :
  Calls Tryz.prog 78 #[.pointer (some ⟨b,0,none⟩),.int .i64 t] w fun e w'=>e=.returned (.tuple #[])∧WrAt base w' b (l++Fr.mom t)∧Below base w w'∧WKept w w':=by
 have HC:=hid (wNumber_k base b l (Fr.zig t) w h (Fr.zig_lt h1 h2) hl hbw)
 clear h
 by_cases h0:t < 0
 ·have hn:=u64_not (2 * t+18446744073709551616).toNat (by omega)
  have e2:((18446744073709551615 - (2 * t+18446744073709551616).toNat:Nat):Int)=Fr.zig t:=by unfold Fr.zig;rw[if_neg (by omega)];omega
  have e3:(((2 * t+18446744073709551616).toNat:Nat):Int)=IntKind.u64.wrap (IntKind.u64.wrap t * 2):=by
   simp only[IntKind.wrap,IntKind.bits,IntKind.signed]
   simp
   omega
  rw[e2,e3] at hn
  have hm:IntKind.u64.max=18446744073709551615:=by decide
  have HN:Hid (bits .xor .u64 IntKind.u64.max (IntKind.u64.wrap (IntKind.u64.wrap t * 2))=Fr.zig t):=by rw[hm];exact hn
  clear hn e2 e3 hm
  go_enter Tryz.func78,Tryz.ntmps78
  go_wp2_with (go_at_call 125;rw[HN.out];refine HC.out.mono ?_;rintro e w1 ⟨rfl,h1,h2⟩;have HB:=hid (And.intro h1 h2);clear h1 h2)
  go_end0
  exact⟨rfl,HB.out.1,HB.out.2⟩
 ·have HN:Hid (t * 2=Fr.zig t):=by
   unfold Hid Fr.zig
   rw[if_pos (by omega)]
   omega
  go_enter Tryz.func78,Tryz.ntmps78
  go_wp2_with (go_at_call 125;rw[HN.out];refine HC.out.mono ?_;rintro e w1 ⟨rfl,h1,h2⟩;have HB:=hid (And.intro h1 h2);clear h1 h2)
  go_end0
  exact⟨rfl,HB.out.1,HB.out.2⟩
theorem wText_k (base b:Nat)(l t:List UInt8)(w:World)(h:WrAt base w b l)(hl:l.length≤10000000)(ht:t.length≤10000000)(hbw:base≤w.heap.size) :
  Calls Tryz.prog 76 #[.pointer (some ⟨b,0,none⟩),.string ⟨t.toArray⟩] w fun e w'=>e=.returned (.tuple #[])∧WrAt base w' b (l++(Fr.num t.length++t))∧Below base w w'∧WKept w w':=by
 have hs:(⟨t.toArray⟩:ByteArray).size=t.length:=by simp[ByteArray.size]
 have HC:=hid (wCount_k base b l t.length w h (by omega) (by omega) hbw)
 clear h
 go_enter Tryz.func76,Tryz.ntmps76
 obtain⟨i0,hi,hz0,hz1,hz2⟩:=info_parts Tryz.infoByteW
 have hnl:=Fr.num_length64 (n:=t.length) (by omega)
 go_wp2_with (first
  | (go_at_call 79;refine HC.out.mono ?_;rintro e w1 ⟨rfl,⟨v1,hbk,hown,hbb⟩,h2⟩;obtain⟨c0,f0⟩:=one_cell hbk;have HB:=hid (And.intro hbk (And.intro hown h2));clear hbk hown h2)
  | (at_builtin;refine Lib.wpList_append_own_string _ rfl _ _ 25 9 rfl base 5 i0 Tryz.underlying25 Tryz.underlying9 hi hz0 hz1 hz2 _ _ _ rfl HB.out.2.1 ⟨t.toArray⟩ rfl ?c3 ?c4 ?c5 ?_))
 case c3=>rw[hs,List.length_append];unfold maxLen;omega
 case c4=>rw[hs,List.length_append];omega
 case c5=>have:=HB.out.2.2.1.size;omega
 intro v' w2 hown' hg _
 have hc:Lib.strCells ⟨t.toArray⟩=byteCells t:=by simp[Lib.strCells,byteCells]
 rw[hc] at hown'
 obtain⟨hb2,hput,hbel⟩:=WrAt.puts (t:=t) HB.out.1 HB.out.2.1 hbb HB.out.2.2.1 hbw (by simpa using hown') hg
 obtain⟨d0,g0⟩:=one_cell hb2
 have hk2:=HB.out.2.2.2.trans (WKept.puts (v':=v') HB.out.1 HB.out.2.1 hg)
 obtain⟨a1,p1,rfl⟩:=own_slice hown'
 have HP:=hid (And.intro hput (And.intro hbel hk2))
 clear hown' hg hput hbel hc hk2
 go_wp2
 go_end0
 refine⟨rfl,?_,HP.out.2.1,HP.out.2.2⟩
 rw[← List.append_assoc]
 exact HP.out.1
theorem WrAt.bel {base b:Nat}{w w':World}{l:List UInt8}(h:WrAt base w b l)(hb:Below w.heap.size w w'):WrAt base w' b l:=by
 obtain⟨v,h1,h2,h3⟩:=h
 exact⟨v,(hb.block b (lt_of_block h1)).trans h1,own_below h2 hb,h3⟩
theorem WKept.alloc {w w':World}(h:WKept w w')(o:Obj):WKept w (w'.alloc o):=h.trans (WKept.below ((Below.refl _ w').alloc (Nat.le_refl _) o))
theorem own_fr {w w':World}{base:Nat}{e:TypeId}{size:Nat}{v:Value}{n:Nat}{xs:List Value}(h:w.ownsRow base e size v n xs)(hb:∀g,v.ownBlock=some g→w'.heap[g]?=w.heap[g]?):w'.ownsRow base e size v n xs:=by
 refine⟨h.1,?_⟩
 rcases h.2 with h2 | ⟨g,cap,cur,hv,hg,hh,r⟩
 ·exact Or.inl h2
 ·exact Or.inr ⟨g,cap,cur,hv,hg,(hb g (by rw[hv];rfl)).trans hh,r⟩
theorem three_k {w:World}{N:Nat}{x y z:Value}{t:TypeId}(h:w.heap[N]?=some (.cells #[x,y,z] t (0,0))):w.cell? ⟨N,0,none⟩=some x∧w.cell? ⟨N,1,none⟩=some y∧w.cell? ⟨N,2,none⟩=some z:=by
 simp[World.cell?,h]
theorem WKept.own {w w':World}{base size n:Nat}{e:TypeId}{v:Value}{xs:List Value}(h:WKept w w')(ho:w.ownsRow base e size v n xs)(h1:e≠5)(h2:e≠220):w'.ownsRow base e size v n xs:=own_fr ho (fun g hg=>by
 obtain⟨-,c,fz,hh⟩:=own_block ho g hg
 rw[h.2 g c e fz hh h1 h2,hh])
theorem rSaveE_any (base b:Nat)(l:List UInt8)(r:En.Rn)(vo:Value)(w:World)(h:WrAt base w b l)(hv:IntsAt (fun k=>k < base) w vo r.offs)(ho:∀o∈r.offs,0≤o∧o < 9223372036854775808)(hs:r.step < 1000)(h1:-9223372036854775808≤r.first)(h2:r.first < 9223372036854775808)(hl:(l++En.runB r).length≤100000000)(hbw:base≤w.heap.size) :
  Calls Tryz.prog 81 #[.agg #[.int .i64 r.step,vo,.int .i64 r.first],.pointer (some ⟨b,0,none⟩)] w fun e w'=>e=.returned (.tuple #[])∧WrAt base w' b (l++En.runB r)∧Below base w w'∧WKept w w':=by
 obtain⟨step,offs,first⟩:=r
 simp only at hv ho hs h1 h2
 obtain⟨ao,cap,rfl,-,-⟩:=RowAt.slice hv
 have hal:=(Below.refl w.heap.size w).alloc (Nat.le_refl _) (.cells #[.int .i64 (step:Int),.slice ao offs.length cap,.int .i64 first] 164)
 have hnew:(w.alloc (.cells #[.int .i64 (step:Int),.slice ao offs.length cap,.int .i64 first] 164)).heap[w.heap.size]?=some (.cells #[.int .i64 (step:Int),.slice ao offs.length cap,.int .i64 first] 164 (0,0)):=heap_alloc_new w _
 generalize hW1:w.alloc (.cells #[.int .i64 (step:Int),.slice ao offs.length cap,.int .i64 first] 164)=W1 at hal hnew
 have hkl:∀k,(l++(Fr.num step++(Fr.num offs.length++En.offsB (offs.take k)))).length≤100000000:=fun k=>by
  have h3:=En.flat_take_le (fun o:Int=>Fr.num o.toNat) offs k
  simp only[En.runB,En.offsB,List.length_append] at hl ⊢
  omega
 have hn:=hv.maxLen
 have hol:offs.length≤100000000:=by
  have h4:offs.length≤(En.offsB offs).length:=by
   unfold En.offsB
   clear hv ho hl hkl hn hal hnew hW1
   induction offs with
   | nil=>simp
   | cons x t ih=>
    have:=Fr.num_pos x.toNat
    simp only[List.flatMap_cons,List.length_append,List.length_cons]
    omega
  have h5:=hkl offs.length
  simp only[List.take_length,List.length_append] at h5
  omega
 have hb1:Below base w W1:=hal.mono hbw
 have HW:=hid (And.intro (h.bel hal) (And.intro hb1 (And.intro hnew (And.intro hv (And.intro ho (And.intro hkl (WKept.below hal)))))))
 obtain⟨x0,x1,x2⟩:=three_k hnew
 have hsz:=hal.size
 clear h hv ho hl hkl hal hnew hn
 go_enter Tryz.func81,Tryz.ntmps81
 go_wp2_with (go_at_call 79;fail)
 refine (wCount_k base b l step W1 HW.out.1 (by omega) (by have:=HW.out.2.2.2.2.2.1 0;simp only[List.length_append] at this;omega) (by omega)).mono ?_
 rintro e w1 ⟨rfl,g1,g2,g3⟩
 obtain⟨-,y1,y2⟩:=three_k (g3.2 _ _ _ _ HW.out.2.2.1 (by decide) (by decide))
 have H1:=hid (And.intro g1 (And.intro (HW.out.2.1.trans g2) g3))
 have hs1:=g3.1
 clear g1 g2 g3 x0 x1 x2
 go_wp2_with (go_at_call 79;fail)
 refine (wCount_k base b (l++Fr.num step) offs.length w1 H1.out.1 (by omega) (by have:=HW.out.2.2.2.2.2.1 0;simp only[List.length_append] at this ⊢;omega) (by omega)).mono ?_
 rintro e w2 ⟨rfl,g1,g2,g3⟩
 have k2:=H1.out.2.2.trans g3
 obtain⟨-,z1,z2⟩:=three_k (k2.2 _ _ _ _ HW.out.2.2.1 (by decide) (by decide))
 have H2:=hid (And.intro g1 (And.intro (H1.out.2.1.trans g2) k2))
 have hs2:=k2.1
 clear g1 g2 g3 k2 y1 y2
 go_wp2
 go_loopw [18] (fun s18 wr=>∃k:Nat,k≤offs.length∧s18=.int .i64 k∧Hid (WrAt base wr b (l++(Fr.num step++(Fr.num offs.length++En.offsB (offs.take k))))∧Below base w wr∧WKept W1 wr)) (fun s18 _=>offs.length - (intOf s18).toNat)
 case atStart=>exact⟨0,by omega,rfl,by simpa [En.offsB] using H2.out.1,H2.out.2.1,H2.out.2.2⟩
 case round=>
  obtain⟨k,hk,rfl,hr⟩:=hrel
  have hsr:=hr.out.2.2.1
  by_cases hlt:k < offs.length
  ·have hk':(k:Int) < (offs.length:Int):=by omega
   obtain⟨b3,o3,rfl,e3⟩:=IntsAt.get (RowAt.frame HW.out.2.2.2.1 hr.out.2.1.size (fun g _ hg=>hr.out.2.1.block g hg)) hlt
   obtain⟨o',ho'⟩:∃o':Nat,offs[k]=(o':Int):=⟨offs[k].toNat,by have:=(HW.out.2.2.2.2.1 _ (List.getElem_mem hlt)).1;omega⟩
   have hob:=(HW.out.2.2.2.2.1 _ (List.getElem_mem hlt)).2
   rw[ho'] at e3 hob
   have HO:=hid ho'
   clear ho'
   go_wp2_with (go_at_call 79;fail)
   refine (wCount_k base b _ o' wr hr.out.1 (by omega) (HW.out.2.2.2.2.2.1 k) (by omega)).mono ?_
   rintro e w3 ⟨rfl,g1,g2,g3⟩
   have H3:=hid (And.intro g1 (And.intro (hr.out.2.1.trans g2) (hr.out.2.2.trans g3)))
   clear g1 g2 g3
   go_wp2
   go_roundw
   case rel=>
    refine⟨k+1,by omega,by go_num,?_,H3.out.2.1,H3.out.2.2⟩
    have e4:En.offsB (offs.take (k+1))=En.offsB (offs.take k)++Fr.num o':=by
     unfold En.offsB
     rw[En.flat_take _ _ _ hlt,HO.out]
     simp
    rw[e4]
    have:=H3.out.1
    simpa using this
   case measure=>simp[intOf];omega
  ·obtain rfl:k=offs.length:=by omega
   have hk':decide ((offs.length:Int) < (offs.length:Int))=false:=decide_eq_false (by omega)
   obtain⟨-,-,t2⟩:=three_k (hr.out.2.2.2 _ _ _ _ HW.out.2.2.1 (by decide) (by decide))
   go_wp2_with (go_at_call 78;fail)
   refine (wMoment_k base b _ first wr hr.out.1 h1 h2 (HW.out.2.2.2.2.2.1 _) (by omega)).mono ?_
   rintro e w3 ⟨rfl,g1,g2,g3⟩
   have H3:=hid (And.intro g1 (And.intro (hr.out.2.1.trans g2) (HW.out.2.2.2.2.2.2.trans (hr.out.2.2.trans g3))))
   clear g1 g2 g3
   go_wp2
   go_end0
   refine⟨rfl,?_,H3.out.2.1,H3.out.2.2⟩
   have:=H3.out.1
   rw[List.take_length] at this
   simpa [En.runB] using this
section
variable {base b qb qo g:Nat} {w wr w':World} {l:List UInt8} {v':Value}
theorem WKept.tch (h:WKept w wr)(t:Tch qb qo v' (some g) wr w')(hq:w.heap.size≤qb)(hg:w.heap.size≤g):WKept w w':=
 ⟨Nat.le_trans h.1 t.size,fun k c ty fz e h1 h2=>by
  have hlt:=lt_of_block e
  rw[t.block k (Nat.lt_of_lt_of_le hlt h.1) (by omega) (fun e1=>by cases e1;omega)]
  exact h.2 k c ty fz e h1 h2⟩
theorem Below.tch (h:Below base w wr)(t:Tch qb qo v' (some g) wr w')(hb:base≤wr.heap.size)(hq:base≤qb)(hg:base≤g):Below base w w':=
 ⟨t.os.trans h.os,t.tape.trans h.tape,t.output.trans h.output,Nat.le_trans h.size t.size,fun k hk=>(t.block k (by omega) (by omega) (fun e=>by cases e;omega)).trans (h.block k hk)⟩
theorem WrAt.tch {cq cg:Array Value}{fq fg:Nat × Nat}(h:WrAt base wr b l)(t:Tch qb qo v' (some g) wr w')(hq:wr.heap[qb]?=some (.cells cq 156 fq))(hg:wr.heap[g]?=some (.cells cg 194 fg)):WrAt base w' b l:=by
 obtain⟨v,h1,h2,h3⟩:=h
 have key:∀k c ty fz,wr.heap[k]?=some (Obj.cells c ty fz)→ty≠156→ty≠194→w'.heap[k]?=wr.heap[k]?:=fun k c ty fz e n1 n2=>
  t.block k (lt_of_block e) (fun e1=>by rw[e1,hq] at e;cases e;exact n1 rfl) (fun e1=>by cases e1;rw[hg] at e;cases e;exact n2 rfl)
 refine⟨v,(key b _ _ _ h1 (by decide) (by decide)).trans h1,own_fr h2 (fun k hk=>?_),h3⟩
 obtain⟨-,c,fz,hh⟩:=own_block h2 k hk
 exact key k c _ fz hh (by decide) (by decide)
end
structure QsRel (base b N qb:Nat)(l:List UInt8)(Q:List En.Ev)(w wr:World)(k:Nat)(rest:List En.Ev)(g cap:Nat):Prop where
 len:rest.length+k=Q.length
 q:0 < Q.length→QAt N wr qb 0 g rest.length cap rest∧wr.heap[qb]?=some (.cells #[.slice (some ⟨g,0,none⟩) rest.length cap] 156 (0,0))
 hp:En.Hp rest rest.length
 apt:En.Apt rest
 srt:En.sortEv Q=(En.sortEv Q).take k++En.sortEv rest
 sub:∀e∈rest,e∈Q
 byt:WrAt base wr b (l++(Fr.num Q.length++En.evsB ((En.sortEv Q).take k)))
 bel:Below base w wr
 kept:WKept w wr
theorem qSave_any (base b:Nat)(l:List UInt8)(Q:List En.Ev)(vq:Value)(w:World)(h:WrAt base w b l)(hq:QRow 0 w vq Q)(hh:En.Hp Q Q.length)(ha:En.Apt Q)(hQ:Q.length≤12)(hev:∀e∈Q,0≤e.off∧e.off < 9223372036854775808∧0≤e.kind∧e.kind < 2147483648∧-9223372036854775808≤e.time∧e.time < 9223372036854775808)(hl:(l++(Fr.num Q.length++En.evsB (En.sortEv Q))).length≤100000000)(hbw:base≤w.heap.size) :
  Calls Tryz.prog 80 #[vq,.pointer (some ⟨b,0,none⟩)] w fun e w'=>e=.returned (.tuple #[])∧WrAt base w' b (l++(Fr.num Q.length++En.evsB (En.sortEv Q)))∧Below base w w'∧WKept w w':=by
 obtain⟨aq,cq,rfl⟩:=own_slice hq
 have HH:=hid (And.intro h (And.intro hq (And.intro hh (And.intro ha (And.intro hev hl)))))
 have hl0:l.length≤100000000:=by simp only[List.length_append] at hl;omega
 clear h hq hh ha hev hl
 go_enter Tryz.func80,Tryz.ntmps80
 go_wp2_with (go_at_call 79;fail)
 refine (wCount_k base b l Q.length w HH.out.1 (by omega) hl0 hbw).mono ?_
 rintro e w1 ⟨rfl,g1,g2,g3⟩
 have H1:=hid (And.intro g1 (And.intro g2 (And.intro g3 (g3.own HH.out.2.1 (by decide) (by decide)))))
 have hs1:=g3.1
 clear g1 g2 g3
 go_wp2_with (go_at_call 102;fail)
 refine (cloneQ_any (fun _=>True) (.slice aq Q.length cq) Q w1 (RowAt.mono (RowAt.ofOwn H1.out.2.2.2) (fun _ _ _=>trivial)) (by omega)).mono ?_
 rintro e w2 ⟨v2,rfl,ho2,hb2⟩
 obtain⟨a2,c2,rfl⟩:=own_slice ho2
 have hal:=(Below.refl w2.heap.size w2).alloc (Nat.le_refl _) (.cells #[.slice a2 Q.length c2] 156)
 have hnew:(w2.alloc (.cells #[.slice a2 Q.length c2] 156)).heap[w2.heap.size]?=some (.cells #[.slice a2 Q.length c2] 156 (0,0)):=heap_alloc_new w2 _
 have hs2:=hb2.size
 have hst:∃g cap,QsRel base b w1.heap.size w2.heap.size l Q w (w2.alloc (.cells #[.slice a2 Q.length c2] 156)) 0 Q g cap:=by
  have hb3:Below w1.heap.size w1 (w2.alloc (.cells #[.slice a2 Q.length c2] 156)):=hb2.trans (hal.mono hs2)
  have hbase:base≤w1.heap.size:=by omega
  have hrow:=own_below ho2 hal
  have com:∀g cap,(0 < Q.length→QAt w1.heap.size (w2.alloc (.cells #[.slice a2 Q.length c2] 156)) w2.heap.size 0 g Q.length cap Q∧(w2.alloc (.cells #[.slice a2 Q.length c2] 156)).heap[w2.heap.size]?=some (.cells #[.slice (some ⟨g,0,none⟩) Q.length cap] 156 (0,0)))→QsRel base b w1.heap.size w2.heap.size l Q w (w2.alloc (.cells #[.slice a2 Q.length c2] 156)) 0 Q g cap:=fun g cap hc=>
   ⟨rfl,hc,HH.out.2.2.1,HH.out.2.2.2.1,by simp,fun e he=>he,by
    have:=H1.out.1.bel hb3
    simpa [En.evsB] using this,H1.out.2.1.trans (hb3.mono hbase),H1.out.2.2.1.trans (WKept.below hb3)⟩
  rcases ho2.2 with ⟨-,h0⟩ | ⟨g,cap,cur,hv,hg,hgg,-⟩
  ·exact⟨0,0,com 0 0 (fun h=>by omega)⟩
  ·injection hv with e1 e2 e3
   subst e1
   subst e3
   refine⟨g,c2,com g c2 (fun _=>⟨⟨?_,hrow,?_⟩,hnew⟩)⟩
   ·exact (one_cell hnew).1
   ·have:=lt_of_block hgg
    omega
 have HS:=hid hst
 clear hal hnew hst ho2 hb2
 go_wp2
 go_loopw [15] (fun s15 wr=>∃k:Nat,k≤Q.length∧s15=.int .i64 k∧Hid (∃rest g cap,QsRel base b w1.heap.size w2.heap.size l Q w wr k rest g cap)) (fun s15 _=>Q.length - (intOf s15).toNat)
 case atStart=>exact⟨0,by omega,rfl,Q,HS.out⟩
 case round=>
  obtain⟨k,hk,rfl,hr⟩:=hrel
  obtain⟨rest,g,cap,hR⟩:=hr.out
  clear hr HS
  by_cases hlt:k < Q.length
  ·have hk':(k:Int) < (Q.length:Int):=by omega
   have hrl:=hR.len
   obtain⟨hqa,hqb⟩:=hR.q (by omega)
   obtain⟨hgN,cg,fg,hgt⟩:=own_block hqa.row g rfl
   have h0:0 < rest.length:=by omega
   have hmem:En.nth rest 0∈Q:=hR.sub _ (by rw[En.nth_eq h0];exact List.getElem_mem h0)
   obtain⟨ev1,ev2,ev3,ev4,ev5,ev6⟩:=HH.out.2.2.2.2.1 _ hmem
   have hrs:=hR.kept.1
   have HR:=hid (And.intro hR (And.intro hqb hgt))
   have hff:wr.frozen? ⟨w2.heap.size,0,none⟩=false:=by simp[World.frozen?,hqb]
   clear hqb hgt hR
   go_wp2_with (go_at_call 103;fail)
   refine (qTake_some w1.heap.size w2.heap.size 0 g rest.length cap rest 9223372036854775807 wr hqa hff (rest.length - 1) (by omega) (by omega) HR.out.1.hp (by omega)).mono ?_
   rintro e w3 ⟨rest',hp1,hp2,rfl,hqa',htc⟩
   have hfs:=front_sort HR.out.1.hp HR.out.1.apt hp1
   obtain⟨x,hx⟩:∃x,En.nth rest 0=x:=⟨_,rfl⟩
   rw[hx] at ev1 ev2 ev3 ev4 ev5 ev6 hp1 hfs ⊢
   obtain⟨xo,xk,xt⟩:=x
   simp only at ev1 ev2 ev3 ev4 ev5 ev6
   obtain⟨no,rfl⟩:∃n:Nat,xo=n:=⟨xo.toNat,by omega⟩
   obtain⟨nk,rfl⟩:∃n:Nat,xk=n:=⟨xk.toNat,by omega⟩
   have hlr:rest'.length+1=rest.length:=by have:=hp1.length_eq;simpa using this
   have hself:w3.heap[w2.heap.size]?=some (.cells #[.slice (some ⟨g,0,none⟩) rest'.length cap] 156 (0,0)):=by
    rw[htc.self]
    exact one_set HR.out.2.1 _
   have hwr3:=HR.out.1.byt.tch htc HR.out.2.1 HR.out.2.2
   have hk3:=HR.out.1.kept.tch htc (by omega) (by omega)
   have hb3:=Below.tch HR.out.1.bel htc (by omega) (by omega) (by omega)
   have hal:=(Below.refl w3.heap.size w3).alloc (Nat.le_refl _) (.cells #[.int .i64 (no:Int),.int .i32 (nk:Int),.int .i64 xt] 194)
   have hnew:(w3.alloc (.cells #[.int .i64 (no:Int),.int .i32 (nk:Int),.int .i64 xt] 194)).heap[w3.heap.size]?=some (.cells #[.int .i64 (no:Int),.int .i32 (nk:Int),.int .i64 xt] 194 (0,0)):=heap_alloc_new w3 _
   obtain⟨x0,x1,x2⟩:=three_k hnew
   have hs3:=htc.size
   have hlen:∀m,(l++(Fr.num Q.length++En.evsB ((En.sortEv Q).take m))).length≤100000000:=fun m=>by
    have h3:=En.flat_take_le En.evB (En.sortEv Q) m
    have h4:=HH.out.2.2.2.2.2
    simp only[En.evsB,List.length_append] at h4 ⊢
    omega
   have hlk:=hlen (k+1)
   have htk:En.evsB ((En.sortEv Q).take (k+1))=En.evsB ((En.sortEv Q).take k)++(Fr.num no++(Fr.num nk++Fr.mom xt)):=by
    have hkl:k < (En.sortEv Q).length:=by rw[(En.sortEv_perm Q).length_eq];exact hlt
    unfold En.evsB
    rw[En.flat_take _ _ _ hkl]
    have hget:(En.sortEv Q)[k]=⟨(no:Int),(nk:Int),xt⟩:=by
     have h5:=HR.out.1.srt
     rw[hfs] at h5
     have h6:(En.sortEv Q)[k]?=some ⟨(no:Int),(nk:Int),xt⟩:=by
      rw[h5,List.getElem?_append_right (by rw[List.length_take];omega)]
      rw[List.length_take,Nat.min_eq_left (by omega)]
      simp
     rw[List.getElem?_eq_getElem hkl] at h6
     exact Option.some.inj h6
    rw[hget]
    simp[En.evB]
   rw[htk] at hlk
   simp only[List.length_append] at hlk
   have H3:=hid (And.intro hqa' (And.intro hself (And.intro (hwr3.bel hal) (And.intro (hb3.trans (hal.mono (by omega))) (And.intro (hk3.alloc (.cells #[.int .i64 (no:Int),.int .i32 (nk:Int),.int .i64 xt] 194)) (And.intro hnew (And.intro hfs (And.intro hp1 (And.intro hp2 (And.intro htk hal))))))))))
   have hsa:=hal.size
   clear hqa' hself hwr3 hb3 hk3 hnew hfs hp1 hp2 htk hal htc hqa hff hx hmem
   go_wp2_with (go_at_call 79;fail)
   refine (wCount_k base b _ no _ H3.out.2.2.1 (by omega) (by simp only[List.length_append];omega) (by omega)).mono ?_
   rintro e w4 ⟨rfl,g1,g2,g3⟩
   obtain⟨-,y1,y2⟩:=three_k (g3.2 _ _ _ _ H3.out.2.2.2.2.2.1 (by decide) (by decide))
   have H4:=hid (And.intro g1 (And.intro (H3.out.2.2.2.1.trans g2) g3))
   have hs4:=g3.1
   clear g1 g2 g3 x0 x1 x2
   go_wp2_with (go_at_call 79;fail)
   refine (wCount_k base b _ nk w4 H4.out.1 (by omega) (by simp only[List.length_append];omega) (by omega)).mono ?_
   rintro e w5 ⟨rfl,g1,g2,g3⟩
   have k5:=H4.out.2.2.trans g3
   obtain⟨-,-,z2⟩:=three_k (k5.2 _ _ _ _ H3.out.2.2.2.2.2.1 (by decide) (by decide))
   have H5:=hid (And.intro g1 (And.intro (H4.out.2.1.trans g2) k5))
   have hs5:=k5.1
   clear g1 g2 g3 k5 y1 y2
   go_wp2_with (go_at_call 78;fail)
   refine (wMoment_k base b _ xt w5 H5.out.1 ev5 ev6 (by simp only[List.length_append];omega) (by omega)).mono ?_
   rintro e w6 ⟨rfl,g1,g2,g3⟩
   have H6:=hid (And.intro g1 (And.intro (H5.out.2.1.trans g2) (H5.out.2.2.trans g3)))
   clear g1 g2 g3 z2
   go_wp2
   go_roundw
   case rel=>
    have hk6:=(WKept.below H3.out.2.2.2.2.2.2.2.2.2.2).trans H6.out.2.2
    have hself6:=hk6.2 _ _ _ _ H3.out.2.1 (by decide) (by decide)
    refine⟨k+1,by omega,by go_num,rest',g,cap,by omega,fun _=>⟨⟨(one_cell hself6).1,hk6.own H3.out.1.row (by decide) (by decide),H3.out.1.ne⟩,hself6⟩,H3.out.2.2.2.2.2.2.2.2.1,?_,?_,?_,?_,H6.out.2.1,H3.out.2.2.2.2.1.trans H6.out.2.2⟩
    ·have h7:=HR.out.1.apt.perm H3.out.2.2.2.2.2.2.2.1
     unfold En.Apt at h7 ⊢
     rw[List.map_cons,List.nodup_cons] at h7
     exact h7.2
    ·have h5:=HR.out.1.srt
     rw[H3.out.2.2.2.2.2.2.1] at h5
     have hkl:k < (En.sortEv Q).length:=by rw[(En.sortEv_perm Q).length_eq];exact hlt
     have h6:(En.sortEv Q).drop (k+1)=En.sortEv rest':=by
      conv=>lhs;rw[h5]
      rw[List.drop_append,List.length_take,Nat.min_eq_left (by omega),List.drop_eq_nil_of_le (by rw[List.length_take];omega)]
      simp
     rw[← h6,List.take_append_drop]
    ·exact fun e he=>HR.out.1.sub e (H3.out.2.2.2.2.2.2.2.1.mem_iff.1 (List.mem_cons_of_mem _ he))
    ·rw[H3.out.2.2.2.2.2.2.2.2.2.1]
     have:=H6.out.1
     simpa using this
   case measure=>simp[intOf];omega
  ·obtain rfl:k=Q.length:=by omega
   have hk':decide ((Q.length:Int) < (Q.length:Int))=false:=decide_eq_false (by omega)
   have HR:=hid hR
   clear hR
   go_wp2
   go_end0
   refine⟨rfl,?_,HR.out.bel,HR.out.kept⟩
   have:=HR.out.byt
   rwa [List.take_of_length_le (by rw[(En.sortEv_perm Q).length_eq];exact Nat.le_refl _)] at this
end Go.Proofs.YtfldcmdhneegmaaGreatDoor

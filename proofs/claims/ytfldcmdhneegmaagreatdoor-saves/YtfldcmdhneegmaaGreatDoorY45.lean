import Derived.Test.YtfldcmdhneegmaaGreatDoorY21
set_option maxHeartbeats 4000000
set_option maxRecDepth 1000000
namespace Go.Proofs.YtfldcmdhneegmaaGreatDoor
open Go.RowKit Go.Lib
theorem str_index (t:List UInt8)(i:Int)(k:Nat)(hi:i=k)(hk:k < t.length)(w:World):(Instr.index 9 (.string ⟨t.toArray⟩) (.int .i64 i)).run Tryz.prog w=.ok (.int .u8 t[k].toNat) w:=by
 subst hi
 rw[run_index_string (P:=Tryz.prog) w 9 ⟨t.toArray⟩ .i64 k Tryz.underlying9]
 rw[dif_pos ⟨by omega,by simp[ByteArray.size];omega⟩]
 rfl
theorem str_one (w:World)(u:Int)(b:Nat)(hb:u=b)(h:b < 256):(convert 25 9 (.slice (some ⟨w.heap.size,0,none⟩) 1 1)).run Tryz.prog (w.alloc (.cells #[.int .u8 u] 5))=.ok (.string ⟨#[UInt8.ofNat b]⟩) (w.alloc (.cells #[.int .u8 u] 5)):=by
 subst hb
 have hn:(UInt8.ofNat b).toNat=b:=Fr.toNat_ofNat h
 have:=run_convert_bytes_back (P:=Tryz.prog) (w.alloc (.cells #[.int .u8 (b:Int)] 5)) 25 9 5 ⟨w.heap.size,0,none⟩ 1 [UInt8.ofNat b] Tryz.underlying25 Tryz.underlying5 Tryz.underlying9 (by
  intro j hj
  have h0':j=0:=by simp at hj;omega
  subst h0'
  simp only[List.getElem_cons_zero,hn]
  simp[Addr.add])
 simpa using this
theorem rNumber_any (n:Nat)(w:World)(hn:n < 18446744073709551616) :
  Calls Tryz.prog 72 #[.int .u64 n] w fun e w'=>e=.returned (.string ⟨(Fr.num n).toArray⟩)∧Below w.heap.size w w':=by
 go_enter Tryz.func72,Tryz.ntmps72
 go_wp2
 go_loopw [0,3] (fun m s wr=>∃(u:Nat) (acc:List UInt8),u < 18446744073709551616∧m=.int .u64 u∧s=.string ⟨acc.toArray⟩∧Hid (acc++Fr.num u=Fr.num n∧Below w.heap.size w wr)) (fun m _ _=>(intOf m).toNat)
 case atStart=>exact⟨n,[],hn,rfl,rfl,by simp,Below.refl _ _⟩
 case round=>
  obtain⟨u,acc,hu,rfl,rfl,hr⟩:=hrel
  have ha:acc.length≤10:=by
   have h1:=congrArg List.length hr.out.1
   have h2:=Fr.num_length64 hn
   rw[List.length_append] at h1
   omega
  by_cases h10:127 < u
  ·have h10':(127:Int) < (u:Int):=by omega
   have hcv:=str_one wr ((u:Int) % 128+128) (u % 128+128) (by omega) (by omega)
   go_wp2
   go_roundw
   case rel=>
    refine⟨u / 128,acc++[UInt8.ofNat (u % 128+128)],by omega,by go_num,?_,?_,hr.out.2.alloc hr.out.2.size _⟩
    ·rw[ByteArray.mk_append_mk]
     simp
    ·rw[← hr.out.1,Fr.num_great (n:=u) (by omega)]
     simp
   case measure=>simp[intOf];omega
  ·have h10':¬ (127:Int) < (u:Int):=by omega
   have hcv:=str_one wr (u:Int) u rfl (by omega)
   go_wp2
   go_ret
   refine⟨?_,hr.out.2.alloc hr.out.2.size _⟩
   rw[← hr.out.1,Fr.num_small (by omega)]
   simp[ByteArray.mk_append_mk]
theorem str_four (w:World)(a b c d:Int)(l:List UInt8)(x0 x1 x2 x3:UInt8)(hl:l=[x0,x1,x2,x3])(h0:a=x0.toNat)(h1:b=x1.toNat)(h2:c=x2.toNat)(h3:d=x3.toNat) :
  (convert 25 9 (.slice (some ⟨w.heap.size,0,none⟩) 4 4)).run Tryz.prog (w.alloc (.cells #[.int .u8 a,.int .u8 b,.int .u8 c,.int .u8 d] 5))=.ok (.string ⟨l.toArray⟩) (w.alloc (.cells #[.int .u8 a,.int .u8 b,.int .u8 c,.int .u8 d] 5)):=by
 subst hl h0 h1 h2 h3
 have:=run_convert_bytes_back (P:=Tryz.prog) (w.alloc (.cells #[.int .u8 (x0.toNat:Int),.int .u8 (x1.toNat:Int),.int .u8 (x2.toNat:Int),.int .u8 (x3.toNat:Int)] 5)) 25 9 5 ⟨w.heap.size,0,none⟩ 4 [x0,x1,x2,x3] Tryz.underlying25 Tryz.underlying5 Tryz.underlying9 (by
  intro j hj
  have hj':j < 4:=by simpa using hj
  match j,hj' with
  | 0,_=>simp[Addr.add]
  | 1,_=>simp[Addr.add]
  | 2,_=>simp[Addr.add]
  | 3,_=>simp[Addr.add])
 simpa using this
theorem rSum_any (l:List UInt8)(w:World)(hl:l.length≤1000000) :
  Calls Tryz.prog 69 #[.string ⟨l.toArray⟩] w fun e w'=>e=.returned (.string ⟨(Fr.sum l).toArray⟩)∧Below w.heap.size w w':=by
 have hs:(⟨l.toArray⟩:ByteArray).size=l.length:=by simp[ByteArray.size]
 go_enter Tryz.func69,Tryz.ntmps69
 go_wp2
 go_loop [3,4] (fun h i=>∃k:Nat,k≤l.length∧i=.int .i64 k∧h=.int .u32 (Fr.sumN (l.take k))) (fun _ i=>l.length - (intOf i).toNat)
 case atStart=>exact⟨0,Nat.zero_le _,rfl,rfl⟩
 case round=>
  obtain⟨k,hk,rfl,rfl⟩:=hrel
  have hlt32:=Fr.sumN_lt (l.take k)
  by_cases hlt:k < l.length
  ·have hix:=str_index l k k rfl hlt w
   have hb:=l[k].toNat_lt
   have hx:=u32_xor_nat (Fr.sumN (l.take k)) l[k].toNat hlt32 (by omega)
   go_wp2
   go_round
   case rel=>
    refine⟨k+1,by omega,by go_num,?_⟩
    rw[List.take_add_one,List.getElem?_eq_getElem hlt,Option.toList_some,Fr.sumN_snoc]
    unfold Fr.sumStep
    simp
   case measure=>simp[intOf];omega
  ·obtain rfl:k=l.length:=by omega
   rw[List.take_length] at *
   generalize hS:Fr.sumN l=S at *
   have hcv:=str_four w ((S:Int) / 16777216) ((S:Int) / 65536 % 256) ((S:Int) / 256 % 256) ((S:Int) % 256) (Fr.sum l) _ _ _ _ rfl (by rw[hS,u8_nat];omega) (by rw[hS,u8_nat];omega) (by rw[hS,u8_nat];omega) (by rw[hS,u8_nat])
   go_wp2
   go_ret
   exact⟨rfl,(Below.refl _ _).alloc (Nat.le_refl _) _⟩
theorem rFramed_any (l:List UInt8)(w:World)(hl:l.length≤1000000) :
  Calls Tryz.prog 74 #[.string ⟨l.toArray⟩] w fun e w'=>e=.returned (.string ⟨(Fr.framed l).toArray⟩)∧Below w.heap.size w w':=by
 have HC:=hid (rSum_any l w hl)
 have h4:=Fr.sum_length l
 have hs:(⟨l.toArray⟩:ByteArray).size=l.length:=by simp[ByteArray.size]
 have hs4:(⟨(Fr.sum l).toArray⟩:ByteArray).size=4:=by simp[ByteArray.size,h4]
 go_enter Tryz.func74,Tryz.ntmps74
 go_wp2_with (go_at_call 69;refine HC.out.mono ?_;rintro e w' ⟨rfl,hb⟩;have HB:=hid hb;clear hb)
 go_ret
 refine⟨?_,HB.out⟩
 rw[ByteArray.mk_append_mk]
 simp[Fr.framed]
def SoundEnd (l:List UInt8)(kind:UInt8)(w:World)(e:Ending)(w':World):Prop:=
 ∃t:List UInt8,e=.returned (.tuple #[.string ⟨t.toArray⟩,.bool (Fr.sound l kind).isSome])∧(∀r,Fr.sound l kind=some r→t=r)∧Below w.heap.size w w'
def RdrAt (w:World)(b:Nat)(l:List UInt8)(bad:Bool):Prop:=w.heap[b]?=some (.cells #[.string ⟨l.toArray⟩,.bool bad] 79 (0,0))
theorem RdrAt.c0 {w:World}{b:Nat}{l:List UInt8}{bad:Bool}(h:RdrAt w b l bad):w.cell? ⟨b,0,none⟩=some (.string ⟨l.toArray⟩):=by
 unfold RdrAt at h
 simp[World.cell?,h]
theorem RdrAt.c1 {w:World}{b:Nat}{l:List UInt8}{bad:Bool}(h:RdrAt w b l bad):w.cell? ⟨b,1,none⟩=some (.bool bad):=by
 unfold RdrAt at h
 simp[World.cell?,h]
theorem RdrAt.f {w:World}{b:Nat}{l:List UInt8}{bad:Bool}(h:RdrAt w b l bad)(i:Nat):w.frozen? ⟨b,i,none⟩=false:=by
 unfold RdrAt at h
 simp[World.frozen?,h]
theorem RdrAt.turned {w:World}{b:Nat}{l:List UInt8}{bad:Bool}(h:RdrAt w b l bad)(q:Nat)(x:Bool)(s:ByteArray)(r:List UInt8)(hs:s=⟨r.toArray⟩) :
  RdrAt (((w.drewN q).setCell ⟨b,1,none⟩ (.bool x)).setCell ⟨b,0,none⟩ (.string s)) b r x∧But b w (((w.drewN q).setCell ⟨b,1,none⟩ (.bool x)).setCell ⟨b,0,none⟩ (.string s)):=by
 subst hs
 have h2:(w.drewN q).heap[b]?=some (.cells #[.string ⟨l.toArray⟩,.bool bad] 79 (0,0)):=h
 exact⟨(blk_setF (blk_setF h2 _).2 _).1,((but_set (w.drewN q) b 1 _).trans (but_set _ b 0 _)).drew⟩
theorem RdrAt.to {w:World}{b:Nat}{l:List UInt8}{x y:Bool}(h:RdrAt w b l x)(e:x=y):RdrAt w b l y:=e ▸ h
def NumEnd (l:List UInt8)(bad:Bool)(top b:Nat)(w:World)(e:Ending)(w':World):Prop:=
 But b w w' ∧
  match Fr.rdRaw l with
  | some (n,z,r)=>e=.returned (.int .u64 n)∧RdrAt w' b r (bad || decide (top < n) || z)
  | none=>e=.returned (.int .u64 0)∧RdrAt w' b [] true
theorem rMoment_any (t:Int)(w:World)(h1:-9223372036854775808≤t)(h2:t < 9223372036854775808) :
  Calls Tryz.prog 73 #[.int .i64 t] w fun e w'=>e=.returned (.string ⟨(Fr.mom t).toArray⟩)∧Below w.heap.size w w':=by
 have HC:=hid (rNumber_any (Fr.zig t) w (Fr.zig_lt h1 h2))
 by_cases h0:t < 0
 ·have hn:=u64_not (2 * t+18446744073709551616).toNat (by omega)
  have e2:((18446744073709551615 - (2 * t+18446744073709551616).toNat:Nat):Int)=Fr.zig t:=by unfold Fr.zig;rw[if_neg (by omega)];omega
  have e3:(((2 * t+18446744073709551616).toNat:Nat):Int)=IntKind.u64.wrap (2 * IntKind.u64.wrap t):=by
   simp only[IntKind.wrap,IntKind.bits,IntKind.signed]
   simp
   omega
  rw[e2,e3] at hn
  have hm:IntKind.u64.max=18446744073709551615:=by decide
  have HN:Hid (bits .xor .u64 IntKind.u64.max (IntKind.u64.wrap (2 * IntKind.u64.wrap t))=Fr.zig t):=by rw[hm];exact hn
  clear hn e2 e3 hm
  go_enter Tryz.func73,Tryz.ntmps73
  go_wp2_with (go_at_call 72;rw[HN.out];refine HC.out.mono ?_;rintro e w' ⟨rfl,hb⟩;have HB:=hid hb;clear hb)
  go_ret
  exact⟨rfl,HB.out⟩
 ·have HN:Hid (2 * t=Fr.zig t):=by
   unfold Hid Fr.zig
   rw[if_pos (by omega)]
   omega
  go_enter Tryz.func73,Tryz.ntmps73
  go_wp2_with (go_at_call 72;rw[HN.out];refine HC.out.mono ?_;rintro e w' ⟨rfl,hb⟩;have HB:=hid hb;clear hb)
  go_ret
  exact⟨rfl,HB.out⟩
def MomEnd (l:List UInt8)(bad:Bool)(b:Nat)(w:World)(e:Ending)(w':World):Prop:=
 But b w w' ∧
  match Fr.rdRaw l with
  | some (n,z,r)=>e=.returned (.int .i64 (Fr.zag n))∧RdrAt w' b r (bad || z)
  | none=>e=.returned (.int .i64 0)∧RdrAt w' b [] true
end Go.Proofs.YtfldcmdhneegmaaGreatDoor

import Derived.Test.YtfldcmdhneegmaaGreatDoorX21
set_option maxHeartbeats 4000000
set_option maxRecDepth 1000000
namespace Go.Proofs.YtfldcmdhneegmaaGreatDoor
open Go.RowKit Go.Lib
theorem str_index (t:List UInt8)(i:Int)(k:Nat)(hi:i=k)(hk:k < t.length)(w:World):(Instr.index 9 (.string ⟨t.toArray⟩) (.int .i64 i)).run Tryz.prog w=.ok (.int .u8 t[k].toNat) w:=by
 subst hi
 rw[run_index_string (P:=Tryz.prog) w 9 ⟨t.toArray⟩ .i64 k Tryz.underlying9]
 rw[dif_pos ⟨by omega,by simp[ByteArray.size];omega⟩]
 rfl
theorem str_extract (t:List UInt8)(a b:Nat)(h:b≤t.length):(⟨t.toArray⟩:ByteArray).extract a b=⟨((t.take b).drop a).toArray⟩:=by
 apply ByteArray.ext
 rw[ByteArray.data_extract]
 apply Array.ext
 ·simp;omega
 ·intro i h1 h2
  simp
theorem str_from (t:List UInt8)(i:Int)(k:Nat)(hi:i=k)(hk:k≤t.length)(w:World):(Instr.slice 9 (.string ⟨t.toArray⟩) (some (.int .i64 i)) none none).run Tryz.prog w=.ok (.string ⟨(t.drop k).toArray⟩) w:=by
 subst hi
 have hs:(⟨t.toArray⟩:ByteArray).size=t.length:=by simp[ByteArray.size]
 rw[run_slice_string_from_if (P:=Tryz.prog) w 9 ⟨t.toArray⟩ .i64 k Tryz.underlying9]
 rw[if_pos ⟨by omega,by rw[hs];omega⟩,show (k:Int).toNat=k by omega,hs,str_extract t k _ (Nat.le_refl _),List.take_length]
theorem str_one (w:World)(u:Int)(b:Nat)(hb:u=b)(h:b < 256):(convert 25 9 (.slice (some ⟨w.heap.size,0,none⟩) 1 1)).run Tryz.prog (w.alloc (.cells #[.int .u8 u] 5))=.ok (.string ⟨#[UInt8.ofNat b]⟩) (w.alloc (.cells #[.int .u8 u] 5)):=by
 subst hb
 have hn:(UInt8.ofNat b).toNat=b:=Fr.toNat_ofNat h
 have:=run_convert_bytes_back (P:=Tryz.prog) (w.alloc (.cells #[.int .u8 (b:Int)] 5)) 25 9 5 ⟨w.heap.size,0,none⟩ 1 [UInt8.ofNat b] Tryz.underlying25 Tryz.underlying5 Tryz.underlying9 (by
  intro j hj
  have h0':j=0:=by simp at hj;omega
  subst h0'
  simp only[List.getElem_cons_zero,hn]
  simp[Addr.add])
 simpa using this
theorem rNumber_any (n:Nat)(w:World)(hn:n < 18446744073709551616) :
  Calls Tryz.prog 72 #[.int .u64 n] w fun e w'=>e=.returned (.string ⟨(Fr.num n).toArray⟩)∧Below w.heap.size w w':=by
 go_enter Tryz.func72,Tryz.ntmps72
 go_wp2
 go_loopw [0,3] (fun m s wr=>∃(u:Nat) (acc:List UInt8),u < 18446744073709551616∧m=.int .u64 u∧s=.string ⟨acc.toArray⟩∧Hid (acc++Fr.num u=Fr.num n∧Below w.heap.size w wr)) (fun m _ _=>(intOf m).toNat)
 case atStart=>exact⟨n,[],hn,rfl,rfl,by simp,Below.refl _ _⟩
 case round=>
  obtain⟨u,acc,hu,rfl,rfl,hr⟩:=hrel
  have ha:acc.length≤10:=by
   have h1:=congrArg List.length hr.out.1
   have h2:=Fr.num_length64 hn
   rw[List.length_append] at h1
   omega
  by_cases h10:127 < u
  ·have h10':(127:Int) < (u:Int):=by omega
   have hcv:=str_one wr ((u:Int) % 128+128) (u % 128+128) (by omega) (by omega)
   go_wp2
   go_roundw
   case rel=>
    refine⟨u / 128,acc++[UInt8.ofNat (u % 128+128)],by omega,by go_num,?_,?_,hr.out.2.alloc hr.out.2.size _⟩
    ·rw[ByteArray.mk_append_mk]
     simp
    ·rw[← hr.out.1,Fr.num_great (n:=u) (by omega)]
     simp
   case measure=>simp[intOf];omega
  ·have h10':¬ (127:Int) < (u:Int):=by omega
   have hcv:=str_one wr (u:Int) u rfl (by omega)
   go_wp2
   go_ret
   refine⟨?_,hr.out.2.alloc hr.out.2.size _⟩
   rw[← hr.out.1,Fr.num_small (by omega)]
   simp[ByteArray.mk_append_mk]
theorem str_four (w:World)(a b c d:Int)(l:List UInt8)(x0 x1 x2 x3:UInt8)(hl:l=[x0,x1,x2,x3])(h0:a=x0.toNat)(h1:b=x1.toNat)(h2:c=x2.toNat)(h3:d=x3.toNat) :
  (convert 25 9 (.slice (some ⟨w.heap.size,0,none⟩) 4 4)).run Tryz.prog (w.alloc (.cells #[.int .u8 a,.int .u8 b,.int .u8 c,.int .u8 d] 5))=.ok (.string ⟨l.toArray⟩) (w.alloc (.cells #[.int .u8 a,.int .u8 b,.int .u8 c,.int .u8 d] 5)):=by
 subst hl h0 h1 h2 h3
 have:=run_convert_bytes_back (P:=Tryz.prog) (w.alloc (.cells #[.int .u8 (x0.toNat:Int),.int .u8 (x1.toNat:Int),.int .u8 (x2.toNat:Int),.int .u8 (x3.toNat:Int)] 5)) 25 9 5 ⟨w.heap.size,0,none⟩ 4 [x0,x1,x2,x3] Tryz.underlying25 Tryz.underlying5 Tryz.underlying9 (by
  intro j hj
  have hj':j < 4:=by simpa using hj
  match j,hj' with
  | 0,_=>simp[Addr.add]
  | 1,_=>simp[Addr.add]
  | 2,_=>simp[Addr.add]
  | 3,_=>simp[Addr.add])
 simpa using this
theorem rSum_any (l:List UInt8)(w:World)(hl:l.length≤1000000) :
  Calls Tryz.prog 69 #[.string ⟨l.toArray⟩] w fun e w'=>e=.returned (.string ⟨(Fr.sum l).toArray⟩)∧Below w.heap.size w w':=by
 have hs:(⟨l.toArray⟩:ByteArray).size=l.length:=by simp[ByteArray.size]
 go_enter Tryz.func69,Tryz.ntmps69
 go_wp2
 go_loop [3,4] (fun h i=>∃k:Nat,k≤l.length∧i=.int .i64 k∧h=.int .u32 (Fr.sumN (l.take k))) (fun _ i=>l.length - (intOf i).toNat)
 case atStart=>exact⟨0,Nat.zero_le _,rfl,rfl⟩
 case round=>
  obtain⟨k,hk,rfl,rfl⟩:=hrel
  have hlt32:=Fr.sumN_lt (l.take k)
  by_cases hlt:k < l.length
  ·have hix:=str_index l k k rfl hlt w
   have hb:=l[k].toNat_lt
   have hx:=u32_xor_nat (Fr.sumN (l.take k)) l[k].toNat hlt32 (by omega)
   go_wp2
   go_round
   case rel=>
    refine⟨k+1,by omega,by go_num,?_⟩
    rw[List.take_add_one,List.getElem?_eq_getElem hlt,Option.toList_some,Fr.sumN_snoc]
    unfold Fr.sumStep
    simp
   case measure=>simp[intOf];omega
  ·obtain rfl:k=l.length:=by omega
   rw[List.take_length] at *
   generalize hS:Fr.sumN l=S at *
   have hcv:=str_four w ((S:Int) / 16777216) ((S:Int) / 65536 % 256) ((S:Int) / 256 % 256) ((S:Int) % 256) (Fr.sum l) _ _ _ _ rfl (by rw[hS,u8_nat];omega) (by rw[hS,u8_nat];omega) (by rw[hS,u8_nat];omega) (by rw[hS,u8_nat])
   go_wp2
   go_ret
   exact⟨rfl,(Below.refl _ _).alloc (Nat.le_refl _) _⟩
theorem str_to (t:List UInt8)(i:Int)(k:Nat)(hi:i=k)(hk:k≤t.length)(w:World):(Instr.slice 9 (.string ⟨t.toArray⟩) none (some (.int .i64 i)) none).run Tryz.prog w=.ok (.string ⟨(t.take k).toArray⟩) w:=by
 subst hi
 have hs:(⟨t.toArray⟩:ByteArray).size=t.length:=by simp[ByteArray.size]
 rw[run_slice_string_to_if (P:=Tryz.prog) w 9 ⟨t.toArray⟩ .i64 k Tryz.underlying9]
 rw[if_pos ⟨by omega,by rw[hs];omega⟩,show (k:Int).toNat=k by omega,str_extract t 0 _ hk,List.drop_zero]
theorem str_part (t:List UInt8)(i j:Int)(a b:Nat)(hi:i=a)(hj:j=b)(hab:a≤b)(hb:b≤t.length)(w:World):(Instr.slice 9 (.string ⟨t.toArray⟩) (some (.int .i64 i)) (some (.int .i64 j)) none).run Tryz.prog w=.ok (.string ⟨((t.take b).drop a).toArray⟩) w:=by
 subst hi hj
 have hs:(⟨t.toArray⟩:ByteArray).size=t.length:=by simp[ByteArray.size]
 rw[run_slice_string_if (P:=Tryz.prog) w 9 ⟨t.toArray⟩ .i64 .i64 a b Tryz.underlying9]
 rw[if_pos ⟨by omega,by rw[hs];omega⟩,if_pos ⟨by omega,by omega⟩,show (a:Int).toNat=a by omega,show (b:Int).toNat=b by omega,str_extract t a b hb]
theorem rFramed_any (l:List UInt8)(w:World)(hl:l.length≤1000000) :
  Calls Tryz.prog 74 #[.string ⟨l.toArray⟩] w fun e w'=>e=.returned (.string ⟨(Fr.framed l).toArray⟩)∧Below w.heap.size w w':=by
 have HC:=hid (rSum_any l w hl)
 have h4:=Fr.sum_length l
 have hs:(⟨l.toArray⟩:ByteArray).size=l.length:=by simp[ByteArray.size]
 have hs4:(⟨(Fr.sum l).toArray⟩:ByteArray).size=4:=by simp[ByteArray.size,h4]
 go_enter Tryz.func74,Tryz.ntmps74
 go_wp2_with (go_at_call 69;refine HC.out.mono ?_;rintro e w' ⟨rfl,hb⟩;have HB:=hid hb;clear hb)
 go_ret
 refine⟨?_,HB.out⟩
 rw[ByteArray.mk_append_mk]
 simp[Fr.framed]
def SoundEnd (l:List UInt8)(kind:UInt8)(w:World)(e:Ending)(w':World):Prop:=
 ∃t:List UInt8,e=.returned (.tuple #[.string ⟨t.toArray⟩,.bool (Fr.sound l kind).isSome])∧(∀r,Fr.sound l kind=some r→t=r)∧Below w.heap.size w w'
theorem rSound_any (l:List UInt8)(kind:UInt8)(w:World)(hl:l.length≤1000000) :
  Calls Tryz.prog 34 #[.string ⟨l.toArray⟩,.int .u8 kind.toNat] w (SoundEnd l kind w):=by
 have hs:(⟨l.toArray⟩:ByteArray).size=l.length:=by simp[ByteArray.size]
 by_cases h5:l.length < 5
 ·have hf:Fr.sound l kind=none:=by unfold Fr.sound;rw[if_neg (by rintro⟨h,-⟩;omega)]
  have h5':(l.length:Int) < 5:=by omega
  have HF:=hid hf
  clear hf
  go_enter Tryz.func34,Tryz.ntmps34
  go_wp2
  go_ret2
  exact⟨[],by rw[HF.out];rfl,fun r h=>(by rw[HF.out] at h;cases h),Below.refl _ _⟩
 ·have h5':¬ (l.length:Int) < 5:=by omega
  have hix:=str_index l 0 0 rfl (by omega) w
  by_cases hk:l[0]=kind
  ·have hk':(((l[0]'(by omega)).toNat:Int) != (kind.toNat:Int))=false:=by rw[hk];simp
   have HC:=hid (rSum_any (l.take (l.length - 4)) w (by rw[List.length_take];omega))
   have hto:=fun w=>str_to l ((l.length:Int) - 4) (l.length - 4) (by omega) (by omega) w
   have hfr:=fun w=>str_from l ((l.length:Int) - 4) (l.length - 4) (by omega) (by omega) w
   have hpt:=fun w=>str_part l 1 ((l.length:Int) - 4) 1 (l.length - 4) rfl (by omega) (by omega) (by omega) w
   have hS:Fr.sound l kind=if Fr.sum (l.take (l.length - 4))=l.drop (l.length - 4) then some ((l.take (l.length - 4)).drop 1) else none:=by
    have hh:l.head?=some kind:=by
     cases l with
     | nil=>simp at h5
     | cons b t=>simpa using hk
    unfold Fr.sound
    by_cases c:Fr.sum (l.take (l.length - 4))=l.drop (l.length - 4)
    ·rw[if_pos c,if_pos ⟨by omega,hh,c⟩]
    ·rw[if_neg c,if_neg (fun h=>c h.2.2)]
   have HS:=hid hS
   clear hS hk
   go_enter Tryz.func34,Tryz.ntmps34
   go_wp2_with (go_at_call 69;refine HC.out.mono ?_;rintro e w' ⟨rfl,hb⟩;have HB:=hid hb;clear hb)
   go_quiet (fail)
   go_wp2
   go_ret2
   refine⟨(l.take (l.length - 4)).drop 1,?_,?_,bel_drewN HB.out _⟩
   ·rw[HS.out]
    by_cases c:Fr.sum (l.take (l.length - 4))=l.drop (l.length - 4)
    ·simp[c]
    ·simp[c]
   ·intro r h
    rw[HS.out] at h
    split at h
    ·exact Option.some.inj h
    ·cases h
  ·have hk':(((l[0]'(by omega)).toNat:Int) != (kind.toNat:Int))=true:=by
    simp
    intro e
    exact hk (UInt8.toNat_inj.1 (by omega))
   have hf:Fr.sound l kind=none:=by
    unfold Fr.sound
    rw[if_neg]
    rintro⟨-,h,-⟩
    apply hk
    cases l with
    | nil=>simp at h5
    | cons b t=>simpa using h
   have HF:=hid hf
   clear hf hk
   go_enter Tryz.func34,Tryz.ntmps34
   go_wp2
   go_ret2
   exact⟨[],by rw[HF.out];rfl,fun r h=>(by rw[HF.out] at h;cases h),Below.refl _ _⟩
def RdrAt (w:World)(b:Nat)(l:List UInt8)(bad:Bool):Prop:=w.heap[b]?=some (.cells #[.string ⟨l.toArray⟩,.bool bad] 79 (0,0))
theorem RdrAt.c0 {w:World}{b:Nat}{l:List UInt8}{bad:Bool}(h:RdrAt w b l bad):w.cell? ⟨b,0,none⟩=some (.string ⟨l.toArray⟩):=by
 unfold RdrAt at h
 simp[World.cell?,h]
theorem RdrAt.c1 {w:World}{b:Nat}{l:List UInt8}{bad:Bool}(h:RdrAt w b l bad):w.cell? ⟨b,1,none⟩=some (.bool bad):=by
 unfold RdrAt at h
 simp[World.cell?,h]
theorem RdrAt.f {w:World}{b:Nat}{l:List UInt8}{bad:Bool}(h:RdrAt w b l bad)(i:Nat):w.frozen? ⟨b,i,none⟩=false:=by
 unfold RdrAt at h
 simp[World.frozen?,h]
theorem RdrAt.turned {w:World}{b:Nat}{l:List UInt8}{bad:Bool}(h:RdrAt w b l bad)(q:Nat)(x:Bool)(s:ByteArray)(r:List UInt8)(hs:s=⟨r.toArray⟩) :
  RdrAt (((w.drewN q).setCell ⟨b,1,none⟩ (.bool x)).setCell ⟨b,0,none⟩ (.string s)) b r x∧But b w (((w.drewN q).setCell ⟨b,1,none⟩ (.bool x)).setCell ⟨b,0,none⟩ (.string s)):=by
 subst hs
 have h2:(w.drewN q).heap[b]?=some (.cells #[.string ⟨l.toArray⟩,.bool bad] 79 (0,0)):=h
 exact⟨(blk_setF (blk_setF h2 _).2 _).1,((but_set (w.drewN q) b 1 _).trans (but_set _ b 0 _)).drew⟩
theorem RdrAt.to {w:World}{b:Nat}{l:List UInt8}{x y:Bool}(h:RdrAt w b l x)(e:x=y):RdrAt w b l y:=e ▸ h
theorem rd_next {l:List UInt8}{k N:Nat}(hk:k < 10)(hl:k < l.length):Fr.rdGo (10 - k) k N (l.drop k)=if k=9∧1 < l[k].toNat then none else if l[k].toNat < 128 then some (N+l[k].toNat * 128 ^ k,decide (0 < k∧l[k]=0),l.drop (k+1)) else Fr.rdGo (10 - (k+1)) (k+1) (N+l[k].toNat % 128 * 128 ^ k) (l.drop (k+1)):=by
 rw[List.drop_eq_getElem_cons hl,show 10 - k=(10 - (k+1))+1 by omega]
 rfl
def NumEnd (l:List UInt8)(bad:Bool)(top b:Nat)(w:World)(e:Ending)(w':World):Prop:=
 But b w w' ∧
  match Fr.rdRaw l with
  | some (n,z,r)=>e=.returned (.int .u64 n)∧RdrAt w' b r (bad || decide (top < n) || z)
  | none=>e=.returned (.int .u64 0)∧RdrAt w' b [] true
theorem numEnd_none {l:List UInt8}{bad:Bool}{top b:Nat}{w w':World}(h:Fr.rdRaw l=none)(h1:But b w w')(h2:RdrAt w' b [] true):NumEnd l bad top b w (.returned (.int .u64 0)) w':=by
 unfold NumEnd
 rw[h]
 exact⟨h1,rfl,h2⟩
theorem numEnd_some {l:List UInt8}{bad:Bool}{top b:Nat}{w w':World}{n:Nat}{z:Bool}{r:List UInt8}(h:Fr.rdRaw l=some (n,z,r))(h1:But b w w')(h2:RdrAt w' b r (bad || decide (top < n) || z)):NumEnd l bad top b w (.returned (.int .u64 n)) w':=by
 unfold NumEnd
 rw[h]
 exact⟨h1,rfl,h2⟩
theorem rrNumber_any (l:List UInt8)(bad:Bool)(top:Nat)(b:Nat)(w:World)(hb:RdrAt w b l bad)(hl:l.length≤1000000) :
  Calls Tryz.prog 35 #[.pointer (some ⟨b,0,none⟩),.int .u64 top] w (NumEnd l bad top b w):=by
 have hs:(⟨l.toArray⟩:ByteArray).size=l.length:=by simp[ByteArray.size]
 have c0:w.cell? ⟨b,0,none⟩=some (.string ⟨l.toArray⟩):=hb.c0
 have c1:w.cell? ⟨b,1,none⟩=some (.bool bad):=hb.c1
 have f0:w.frozen? ⟨b,0,none⟩=false:=hb.f 0
 have f1:w.frozen? ⟨b,1,none⟩=false:=hb.f 1
 have HR:=hid hb
 clear hb
 go_enter Tryz.func35,Tryz.ntmps35
 go_wp2
 go_loopw [5,6] (fun n i wr=>∃(k N:Nat),k≤10∧k≤l.length∧N < 128 ^ k∧i=.int .i64 k∧n=.int .u64 N∧Hid (Fr.rdGo (10 - k) k N (l.drop k)=Fr.rdRaw l∧∃q,wr=w.drewN q)) (fun _ i _=>l.length - (intOf i).toNat)
 case atStart=>exact⟨0,0,by omega,by omega,by decide,rfl,rfl,rfl,0,rfl⟩
 case round=>
  obtain⟨k,N,hk10,hkl,hN,rfl,rfl,hr⟩:=hrel
  obtain⟨q,rfl⟩:=hr.out.2
  by_cases hgo:k < 10∧k < l.length
  ·obtain⟨hk,hlt⟩:=hgo
   have hk':(k:Int) < 10:=by omega
   have hlt':(k:Int) < l.length:=by omega
   have hix:=fun w=>str_index l k k rfl hlt w
   have hbb:=l[k].toNat_lt
   have hnx:=rd_next (N:=N) hk hlt
   rw[hr.out.1] at hnx
   generalize hbk:l[k]=bk at *
   have hb8:bk.toNat < 256:=hbb
   clear hbb
   have hz:bk=0↔bk.toNat=0:=⟨fun e=>by rw[e];rfl,fun e=>UInt8.toNat_inj.1 e⟩
   simp only[hz] at hnx
   clear hz
   generalize bk.toNat=bn at hnx hix hb8
   clear hbk bk
   have hT:=HR.out.turned
   by_cases h9:k=9∧1 < bn
   ·rw[if_pos h9] at hnx
    have h9a:((k:Int) == 9)=true:=by simp;omega
    have h9b:(1:Int) < bn:=by omega
    have HX:=hid hnx
    clear hnx hr h9
    go_wp2
    go_ret
    exact numEnd_none HX.out (hT _ _ _ [] rfl).2 (hT _ _ _ [] rfl).1
   ·rw[if_neg h9] at hnx
    have hlt64:N+bn % 128 * 128 ^ k < 18446744073709551616:=by
     by_cases c9:k=9
     ·subst c9
      have:bn≤1:=by omega
      have:bn % 128≤1:=by omega
      have:=Nat.mul_le_mul_right (128 ^ 9) this
      omega
     ·have h1:bn % 128 * 128 ^ k≤127 * 128 ^ k:=Nat.mul_le_mul_right _ (by omega)
      have h2:=pow_le (k:=k+1) (by omega)
      rw[Nat.pow_succ] at h2
      omega
    have hw:IntKind.u64.wrap ((N:Int)+IntKind.u64.wrap ((bn:Int) % 128 * 2 ^ (7 * k)))=((N+bn % 128 * 128 ^ k:Nat):Int):=by
     have e1:(bn:Int) % 128 * 2 ^ (7 * k)=((bn % 128 * 128 ^ k:Nat):Int):=by
      rw[← pow7];simp
     rw[e1]
     generalize bn % 128 * 128 ^ k=M at *
     simp only[IntKind.wrap,IntKind.bits,IntKind.signed]
     simp
     omega
    by_cases hs7:bn < 128
    ·rw[if_pos hs7] at hnx
     have hs7':(bn:Int) < 128:=by omega
     have hm:bn % 128=bn:=by omega
     rw[hm] at hw hlt64
     generalize N+bn * 128 ^ k=M at *
     have HX:=hid hnx
     have hex:=str_extract l (k+1) l.length (Nat.le_refl _)
     rw[List.take_length] at hex
     clear hnx hr hm
     by_cases c9:k=9
     ·have c9a:((k:Int) == 9)=true:=by simp;omega
      have c9b:¬ (1:Int) < bn:=by omega
      have c9c:(0:Int) < (k:Int):=by omega
      have C9:=hid c9
      clear c9 h9
      cases bad
      all_goals
       go_wp2
       all_goals go_ret
       all_goals refine numEnd_some HX.out ?_ ?_
       all_goals first
        | exact (hT q _ _ _ rfl).2
        | exact (hT q _ _ _ rfl).1.to (by have:=C9.out;rw[Bool.eq_iff_iff];simp;try omega)
     ·have c9a:((k:Int) == 9)=false:=by simp;omega
      have C9:=hid c9
      clear c9 h9
      cases bad
      all_goals
       go_wp2
       all_goals go_ret
       all_goals refine numEnd_some HX.out ?_ ?_
       all_goals first
        | exact (hT q _ _ _ rfl).2
        | exact (hT q _ _ _ rfl).1.to (by have:=C9.out;rw[Bool.eq_iff_iff];simp;try omega)
    ·rw[if_neg hs7] at hnx
     have hs7':¬ (bn:Int) < 128:=by omega
     have hk9:((k:Int) == 9)=false:=by simp;omega
     have hsm:N+bn % 128 * 128 ^ k < 128 ^ (k+1):=by
      have h1:bn % 128 * 128 ^ k≤127 * 128 ^ k:=Nat.mul_le_mul_right _ (by omega)
      rw[Nat.pow_succ]
      omega
     generalize N+bn % 128 * 128 ^ k=M at *
     have HH:=hid (And.intro hsm hnx.symm)
     clear hsm hnx hT hr
     go_wp2
     go_roundw
     case rel=>exact⟨k+1,M,by omega,by omega,HH.out.1,by go_num,rfl,HH.out.2,q,rfl⟩
     case measure=>simp[intOf];omega
  ·have hnx:Fr.rdRaw l=none:=by
    rw[← hr.out.1]
    by_cases c:k=10
    ·subst c;rfl
    ·rw[List.drop_eq_nil_of_le (by omega),show 10 - k=(10 - k - 1)+1 by omega]
     rfl
   have HX:=hid hnx
   have hT:=HR.out.turned
   clear hnx hr
   by_cases c:k=10
   ·have c':¬ (k:Int) < 10:=by omega
    go_wp2
    go_ret
    exact numEnd_none HX.out (hT _ _ _ [] rfl).2 (hT _ _ _ [] rfl).1
   ·have c':(k:Int) < 10:=by omega
    have c'':¬ (k:Int) < l.length:=by omega
    go_wp2
    go_ret
    exact numEnd_none HX.out (hT _ _ _ [] rfl).2 (hT _ _ _ [] rfl).1
theorem rMoment_any (t:Int)(w:World)(h1:-9223372036854775808≤t)(h2:t < 9223372036854775808) :
  Calls Tryz.prog 73 #[.int .i64 t] w fun e w'=>e=.returned (.string ⟨(Fr.mom t).toArray⟩)∧Below w.heap.size w w':=by
 have HC:=hid (rNumber_any (Fr.zig t) w (Fr.zig_lt h1 h2))
 by_cases h0:t < 0
 ·have hn:=u64_not (2 * t+18446744073709551616).toNat (by omega)
  have e2:((18446744073709551615 - (2 * t+18446744073709551616).toNat:Nat):Int)=Fr.zig t:=by unfold Fr.zig;rw[if_neg (by omega)];omega
  have e3:(((2 * t+18446744073709551616).toNat:Nat):Int)=IntKind.u64.wrap (2 * IntKind.u64.wrap t):=by
   simp only[IntKind.wrap,IntKind.bits,IntKind.signed]
   simp
   omega
  rw[e2,e3] at hn
  have hm:IntKind.u64.max=18446744073709551615:=by decide
  have HN:Hid (bits .xor .u64 IntKind.u64.max (IntKind.u64.wrap (2 * IntKind.u64.wrap t))=Fr.zig t):=by rw[hm];exact hn
  clear hn e2 e3 hm
  go_enter Tryz.func73,Tryz.ntmps73
  go_wp2_with (go_at_call 72;rw[HN.out];refine HC.out.mono ?_;rintro e w' ⟨rfl,hb⟩;have HB:=hid hb;clear hb)
  go_ret
  exact⟨rfl,HB.out⟩
 ·have HN:Hid (2 * t=Fr.zig t):=by
   unfold Hid Fr.zig
   rw[if_pos (by omega)]
   omega
  go_enter Tryz.func73,Tryz.ntmps73
  go_wp2_with (go_at_call 72;rw[HN.out];refine HC.out.mono ?_;rintro e w' ⟨rfl,hb⟩;have HB:=hid hb;clear hb)
  go_ret
  exact⟨rfl,HB.out⟩
def MomEnd (l:List UInt8)(bad:Bool)(b:Nat)(w:World)(e:Ending)(w':World):Prop:=
 But b w w' ∧
  match Fr.rdRaw l with
  | some (n,z,r)=>e=.returned (.int .i64 (Fr.zag n))∧RdrAt w' b r (bad || z)
  | none=>e=.returned (.int .i64 0)∧RdrAt w' b [] true
theorem rrMoment_any (l:List UInt8)(bad:Bool)(b:Nat)(w:World)(hb:RdrAt w b l bad)(hl:l.length≤1000000) :
  Calls Tryz.prog 36 #[.pointer (some ⟨b,0,none⟩)] w (MomEnd l bad b w):=by
 have HC:=hid (rrNumber_any l bad 18446744073709551615 b w hb hl)
 clear hb
 cases hr:Fr.rdRaw l with
 | none=>
  have HX:=hid hr
  clear hr
  go_enter Tryz.func36,Tryz.ntmps36
  go_wp2_with (go_at_call 35;refine HC.out.mono ?_;rintro e w' ⟨hb,he⟩;rw[HX.out] at he;obtain⟨rfl,hr2⟩:=he;have HE:=hid (And.intro hb hr2);clear hb hr2)
  go_ret
  unfold MomEnd
  rw[HX.out]
  exact⟨HE.out.1,rfl,HE.out.2⟩
 | some x=>
  obtain⟨n,z,r⟩:=x
  have hn:=(Fr.rdRaw_lt hr).1
  have ht:decide (18446744073709551615 < n)=false:=by simp;omega
  have HX:=hid (And.intro hr ht)
  clear hr ht
  by_cases h2:n % 2=1
  ·have h2':((n:Int) % 2 == 1)=true:=by simp;omega
   have hx:=u64_not (n / 2) (by omega)
   have hx':bits .xor .u64 IntKind.u64.max ((n:Int) / 2)=((18446744073709551615 - n / 2:Nat):Int):=by
    have hm:IntKind.u64.max=18446744073709551615:=by decide
    rw[hm,← hx]
    rfl
   clear hx
   have hv:Fr.zag n=-1 - (n / 2:Nat):=by unfold Fr.zag;rw[if_pos h2]
   have HV:=hid hv
   clear hv h2
   go_enter Tryz.func36,Tryz.ntmps36
   go_wp2_with (go_at_call 35;refine HC.out.mono ?_;rintro e w' ⟨hb,he⟩;rw[HX.out.1] at he;obtain⟨rfl,hr2⟩:=he;have HE:=hid (And.intro hb hr2);clear hb hr2)
   go_ret
   unfold MomEnd
   rw[HX.out.1]
   have h3:=HE.out.2
   rw[HX.out.2,Bool.or_false] at h3
   refine⟨HE.out.1,?_,h3⟩
   rw[HV.out]
   have e:wrap64 ((18446744073709551615 - n / 2:Nat):Int)=-1 - ((n / 2:Nat):Int):=by
    have e1:((18446744073709551615 - n / 2:Nat):Int)=18446744073709551615 - ((n / 2:Nat):Int):=by omega
    have e2:((n / 2:Nat):Int) < 9223372036854775808:=by omega
    rw[e1]
    generalize ((n / 2:Nat):Int)=y at *
    unfold wrap64
    omega
   rw[← e]
   rfl
  ·have h2':((n:Int) % 2 == 1)=false:=by simp;omega
   have hv:Fr.zag n=(n / 2:Nat):=by unfold Fr.zag;rw[if_neg h2]
   have HV:=hid hv
   clear hv h2
   go_enter Tryz.func36,Tryz.ntmps36
   go_wp2_with (go_at_call 35;refine HC.out.mono ?_;rintro e w' ⟨hb,he⟩;rw[HX.out.1] at he;obtain⟨rfl,hr2⟩:=he;have HE:=hid (And.intro hb hr2);clear hb hr2)
   go_ret
   unfold MomEnd
   rw[HX.out.1]
   have h3:=HE.out.2
   rw[HX.out.2,Bool.or_false] at h3
   refine⟨HE.out.1,?_,h3⟩
   rw[HV.out]
   rfl
end Go.Proofs.YtfldcmdhneegmaaGreatDoor

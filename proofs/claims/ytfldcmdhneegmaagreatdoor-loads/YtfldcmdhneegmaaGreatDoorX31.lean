import Derived.Test.YtfldcmdhneegmaaGreatDoorX22
import Derived.Laws.DeepNot64
set_option maxHeartbeats 4000000
set_option maxRecDepth 1000000
namespace Go.Proofs.YtfldcmdhneegmaaGreatDoor
open Go.RowKit Go.Lib
def PNumEnd (l:List UInt8)(k:Nat)(v:Value)(b:Nat)(w:World)(e:Ending)(w':World):Prop:=
 But b w w' ∧
  match Fr.rd (l.drop k) with
  | some (n,r)=>e=.returned (.int .u64 n)∧RdAt w' b v (l.length - r.length)
  | none=>BytesPanic e
theorem rd_of_raw {l:List UInt8}{n:Nat}{r:List UInt8}(h:Fr.rdRaw l=some (n,false,r)):Fr.rd l=some (n,r):=by unfold Fr.rd;rw[h]
theorem rd_of_many {l:List UInt8}{n:Nat}{r:List UInt8}(h:Fr.rdRaw l=some (n,true,r)):Fr.rd l=none:=by unfold Fr.rd;rw[h]
theorem rd_of_none {l:List UInt8}(h:Fr.rdRaw l=none):Fr.rd l=none:=by unfold Fr.rd;rw[h]
theorem pnumEnd_ok {l:List UInt8}{k:Nat}{v:Value}{b:Nat}{w w':World}{n:Nat}{r:List UInt8}(h:Fr.rd (l.drop k)=some (n,r))(hb:But b w w'){x:Int}(hx:x=n){j:Nat}(hr:RdAt w' b v j)(hj:j=l.length - r.length):PNumEnd l k v b w (.returned (.int .u64 x)) w':=by
 subst hx hj
 unfold PNumEnd
 rw[h]
 exact⟨hb,rfl,hr⟩
theorem pnumEnd_no {l:List UInt8}{k:Nat}{v:Value}{b:Nat}{w w':World}{e:Ending}(h:Fr.rd (l.drop k)=none)(hb:But b w w')(he:BytesPanic e):PNumEnd l k v b w e w':=by
 unfold PNumEnd
 rw[h]
 exact⟨hb,he⟩
theorem or_part (N bn i:Nat)(hN64:N < 18446744073709551616)(hi:i < 10)(hN:N < 128 ^ i):∃M:Nat,M < 18446744073709551616∧bits .or .u64 (N:Int) (IntKind.u64.wrap ((bn:Int) % 128 * 2 ^ (i * 7)))=(M:Int)∧(i < 9∨bn % 128≤1→M=N+bn % 128 * 128 ^ i):=by
 have e1:IntKind.u64.wrap ((bn:Int) % 128 * 2 ^ (i * 7))=((bn % 128 * 2 ^ (i * 7) % 18446744073709551616:Nat):Int):=by
  have:(bn:Int) % 128 * 2 ^ (i * 7)=((bn % 128 * 2 ^ (i * 7):Nat):Int):=by simp
  rw[this]
  generalize bn % 128 * 2 ^ (i * 7)=Y
  simp only[IntKind.wrap,IntKind.bits,IntKind.signed]
  simp
 rw[e1]
 have hp:(2:Nat) ^ (i * 7)=128 ^ i:=by rw[Nat.mul_comm,pow7]
 refine⟨N ||| (bn % 128 * 2 ^ (i * 7) % 18446744073709551616),?_,u64_or_nat _ _ hN64 (Nat.mod_lt _ (by omega)),?_⟩
 ·have h1:N < 2 ^ 64:=by omega
  have h2:bn % 128 * 2 ^ (i * 7) % 18446744073709551616 < 2 ^ 64:=Nat.lt_of_lt_of_le (Nat.mod_lt _ (by omega)) (by omega)
  have:=Nat.or_lt_two_pow h1 h2
  omega
 ·intro h
  have hlt:bn % 128 * 2 ^ (i * 7) < 18446744073709551616:=by
   rw[hp]
   rcases h with h | h
   ·have h1:bn % 128 * 128 ^ i≤127 * 128 ^ i:=Nat.mul_le_mul_right _ (by omega)
    have h2:=pow_le (k:=i+1) (by omega)
    rw[Nat.pow_succ] at h2
    omega
   ·have h1:bn % 128 * 128 ^ i≤1 * 128 ^ i:=Nat.mul_le_mul_right _ h
    have h2:=pow_le (k:=i) (by omega)
    omega
  rw[Nat.mod_eq_of_lt hlt]
  have h3:=Nat.two_pow_add_eq_or_of_lt (i:=i * 7) (b:=N) (by rw[hp];exact hN) (bn % 128)
  rw[Nat.or_comm,Nat.mul_comm (bn % 128),← h3,hp]
  rw[Nat.mul_comm]
  omega
theorem fNumber_any (F:Nat→Prop)(v:Value)(l:List UInt8)(b k:Nat)(w:World)(hr:RdAt w b v k)(hv:BytesAt F w v l)(hF:¬ F b)(hk:k≤l.length)(hl:l.length≤1000000) :
  Calls Tryz.prog 185 #[.pointer (some ⟨b,0,none⟩)] w (PNumEnd l k v b w):=by
 have HR:=hid hr
 have HV:=hid hv
 clear hr hv
 go_enter Tryz.func185,Tryz.ntmps185
 go_wp2
 go_loopw [3,6] (fun n j wr=>∃(i N:Nat),i≤10∧k+i≤l.length∧j=.int .i64 i∧n=.int .u64 N∧N < 18446744073709551616∧Hid (RdAt wr b v (k+i)∧But b w wr∧(i≤9→N < 128 ^ i∧Fr.rdGo (10 - i) i N (l.drop (k+i))=Fr.rdRaw (l.drop k))∧(i=10→Fr.rdRaw (l.drop k)=none))) (fun _ j _=>10 - (intOf j).toNat)
 case atStart=>exact⟨0,0,by omega,by omega,rfl,rfl,by omega,HR.out,But.refl _ _,fun _=>⟨by decide,rfl⟩,fun h=>by cases h⟩
 case round=>
  obtain⟨i,N,hi10,hil,rfl,rfl,hN64,hr⟩:=hrel
  by_cases hi:i < 10
  ·have hi':(i:Int) < 10:=by omega
   obtain⟨hN,hgo⟩:=hr.out.2.2.1 (by omega)
   have HNext:=hid (fNext_any F v l b (k+i) wr hr.out.1 (HV.out.but hr.out.2.1 hF) (by omega) hl)
   by_cases hlt:k+i < l.length
   ·have hb8:l[k+i].toNat < 256:=l[k+i].toNat_lt
    have hnx:Fr.rdGo (10 - i) i N (l.drop (k+i))=if i=9∧1 < l[k+i].toNat then none else if l[k+i].toNat < 128 then some (N+l[k+i].toNat * 128 ^ i,decide (0 < i∧l[k+i]=0),l.drop (k+i+1)) else Fr.rdGo (10 - (i+1)) (i+1) (N+l[k+i].toNat % 128 * 128 ^ i) (l.drop (k+i+1)):=by
     rw[List.drop_eq_getElem_cons hlt,show 10 - i=(10 - (i+1))+1 by omega]
     rfl
    have hz:l[k+i]=0↔l[k+i].toNat=0:=⟨fun e=>by rw[e];rfl,fun e=>UInt8.toNat_inj.1 e⟩
    rw[hgo] at hnx
    simp only[hz] at hnx
    clear hz hgo
    have HN2:Hid (Calls Tryz.prog 228 #[.pointer (some ⟨b,0,none⟩)] wr fun e w'=>e=.returned (.int .u8 (l[k+i].toNat:Int))∧RdAt w' b v (k+i+1)∧But b wr w'):=HNext.out.mono fun e w' h=>by
     obtain⟨h1,h2⟩:=h
     rw[dif_pos hlt] at h2
     exact⟨h2.1,h2.2,h1⟩
    clear HNext
    generalize l[k+i].toNat=bn at *
    have hand:bits .andNot .u8 (bn:Int) 128=((bn % 128:Nat):Int):=by
     have h1:=u8_andNot_nat bn 128 hb8 (by omega)
     have h2:bn &&& 127=bn % 128:=Nat.and_two_pow_sub_one_eq_mod bn 7
     rw[show 255 - 128=127 by rfl,h2] at h1
     exact h1
    obtain⟨M,hM64,hor,hMv⟩:=or_part N bn i hN64 hi hN
    by_cases hs7:bn < 128
    ·have hs7':(bn:Int) < 128:=by omega
     by_cases h0:bn=0∧0 < i
     ·have h0a:¬ (0:Int) < (bn:Int):=by omega
      have h0b:((i:Int) == 0)=false:=by simp;omega
      have hno:Fr.rd (l.drop k)=none:=by
       by_cases c:i=9∧1 < bn
       ·omega
       ·rw[if_neg c,if_pos hs7] at hnx
        have hd:decide (0 < i∧bn=0)=true:=decide_eq_true ⟨h0.2,h0.1⟩
        rw[hd] at hnx
        exact rd_of_many hnx
      have HX:=hid hno
      clear hno hnx hMv
      go_wp2_with (first
       | (go_at_call 228;refine HN2.out.mono ?_;rintro e w1 ⟨rfl,hb⟩;have HB:=hid hb;clear hb)
       | (go_at_call_of 113 (Value.bool false);refine (fNeed_false b _ _ _ HB.out.1.c1).mono ?_;rintro e w2 ⟨rfl,hw⟩;subst hw))
      exact⟨rfl,pnumEnd_no HX.out (hr.out.2.1.trans HB.out.2) ⟨_,_,rfl⟩⟩
     ·by_cases h9:i=9∧1 < bn
      ·have h9a:decide ((i:Int) < 9)=false:=decide_eq_false (by omega)
       have h9b:decide ((bn:Int)≤1)=false:=decide_eq_false (by omega)
       have h9c:(0:Int) < (bn:Int):=by omega
       rw[if_pos h9] at hnx
       have HX:=hid (rd_of_none hnx)
       clear hnx hMv h9 h0
       go_wp2_with (first
        | (go_at_call 228;refine HN2.out.mono ?_;rintro e w1 ⟨rfl,hb⟩;have HB:=hid hb;clear hb)
        | (go_at_call_of 113 (Value.bool true);refine (fNeed_true b _ _).mono ?_;rintro e w2 ⟨rfl,hw⟩;subst hw)
        | (go_at_call_of 113 (Value.bool false);refine (fNeed_false b _ _ _ HB.out.1.c1).mono ?_;rintro e w2 ⟨rfl,hw⟩;subst hw))
       exact⟨rfl,pnumEnd_no HX.out (hr.out.2.1.trans HB.out.2) ⟨_,_,rfl⟩⟩
      ·rw[if_neg h9,if_pos hs7] at hnx
       have hdz:decide (0 < i∧bn=0)=false:=by simp;omega
       rw[hdz] at hnx
       have hok:=rd_of_raw hnx
       have hm:bn % 128=bn:=by omega
       rw[hm] at hMv
       have hMe:=hMv (by omega)
       have HX:=hid (And.intro hok hMe)
       have hj:k+i+1=l.length - (l.drop (k+i+1)).length:=by rw[List.length_drop];omega
       have HJ:=hid hj
       clear hok hnx hMv hMe hdz hm hj
       by_cases c0:(0:Int) < (bn:Int)
       ·by_cases c9:(i:Int) < 9
        ·go_wp2_with (first
          | (go_at_call 228;refine HN2.out.mono ?_;rintro e w1 ⟨rfl,hb⟩;have HB:=hid hb;clear hb)
          | (go_at_call_of 113 (Value.bool true);refine (fNeed_true b _ _).mono ?_;rintro e w2 ⟨rfl,hw⟩;subst hw))
         go_ret
         exact pnumEnd_ok HX.out.1 (hr.out.2.1.trans HB.out.2) (by rw[HX.out.2]) HB.out.1 HJ.out
        ·have c9b:(bn:Int)≤1:=by omega
         go_wp2_with (first
          | (go_at_call 228;refine HN2.out.mono ?_;rintro e w1 ⟨rfl,hb⟩;have HB:=hid hb;clear hb)
          | (go_at_call_of 113 (Value.bool true);refine (fNeed_true b _ _).mono ?_;rintro e w2 ⟨rfl,hw⟩;subst hw))
         go_ret
         exact pnumEnd_ok HX.out.1 (hr.out.2.1.trans HB.out.2) (by rw[HX.out.2]) HB.out.1 HJ.out
       ·have c1:((i:Int) == 0)=true:=by simp;omega
        have c9:(i:Int) < 9:=by omega
        go_wp2_with (first
         | (go_at_call 228;refine HN2.out.mono ?_;rintro e w1 ⟨rfl,hb⟩;have HB:=hid hb;clear hb)
         | (go_at_call_of 113 (Value.bool true);refine (fNeed_true b _ _).mono ?_;rintro e w2 ⟨rfl,hw⟩;subst hw))
        go_ret
        exact pnumEnd_ok HX.out.1 (hr.out.2.1.trans HB.out.2) (by rw[HX.out.2]) HB.out.1 HJ.out
    ·have hs7':¬ (bn:Int) < 128:=by omega
     have HX:=hid (And.intro hnx hMv)
     clear hnx hMv
     go_wp2_with (go_at_call 228;refine HN2.out.mono ?_;rintro e w1 ⟨rfl,hb⟩;have HB:=hid hb;clear hb)
     refine⟨⟨i+1,M,by omega,by omega,by go_num,rfl,hM64,HB.out.1,hr.out.2.1.trans HB.out.2,fun h9=>?_,fun h10=>?_⟩,by simp[intOf];omega⟩
     ·have h1:=HX.out.2 (Or.inl (by omega))
      have h2:=HX.out.1
      rw[if_neg (by omega),if_neg hs7,← h1] at h2
      refine⟨?_,h2.symm⟩
      rw[h1,Nat.pow_succ]
      have h3:bn % 128 * 128 ^ i≤127 * 128 ^ i:=Nat.mul_le_mul_right _ (by omega)
      omega
     ·have h2:=HX.out.1
      rw[if_pos (by omega)] at h2
      exact h2
   ·have hno:Fr.rd (l.drop k)=none:=by
     apply rd_of_none
     rw[← hgo,List.drop_eq_nil_of_le (by omega),show 10 - i=(10 - i - 1)+1 by omega]
     rfl
    have HX:=hid hno
    clear hno hgo
    go_wp2_with (go_at_call 228;refine HNext.out.mono ?_;rintro e w1 ⟨hb,he⟩;rw[dif_neg hlt] at he;obtain⟨n1,s1,rfl⟩:=he;have HB:=hid hb;clear hb)
    exact⟨rfl,pnumEnd_no HX.out (hr.out.2.1.trans HB.out) ⟨_,_,rfl⟩⟩
  ·obtain rfl:i=10:=by omega
   have HX:=hid (rd_of_none (hr.out.2.2.2 rfl))
   go_wp2_with (go_at_call 113;refine (fNeed_false b _ _ _ hr.out.1.c1).mono ?_;rintro e w1 ⟨rfl,hw⟩;subst hw)
   exact⟨rfl,pnumEnd_no HX.out hr.out.2.1 ⟨_,_,rfl⟩⟩
def BelowEnd (l:List UInt8)(k:Nat)(v:Value)(limit:Nat)(b:Nat)(w:World)(e:Ending)(w':World):Prop:=
 But b w w' ∧
  match Fr.rd (l.drop k) with
  | some (n,r)=>if n < limit then e=.returned (.int .i64 n)∧RdAt w' b v (l.length - r.length) else BytesPanic e
  | none=>BytesPanic e
theorem fBelow_any (F:Nat→Prop)(v:Value)(l:List UInt8)(b k limit:Nat)(s:ByteArray)(w:World)(hr:RdAt w b v k)(hv:BytesAt F w v l)(hF:¬ F b)(hk:k≤l.length)(hl:l.length≤1000000)(hlim:limit < 9223372036854775808) :
  Calls Tryz.prog 116 #[.pointer (some ⟨b,0,none⟩),.int .i64 limit,.string s] w (BelowEnd l k v limit b w):=by
 have HC:=hid (fNumber_any F v l b k w hr hv hF hk hl)
 clear hr hv
 cases hx:Fr.rd (l.drop k) with
 | none=>
  have HX:=hid hx
  clear hx
  go_enter Tryz.func116,Tryz.ntmps116
  go_wp2_with (go_at_call 185;refine HC.out.mono ?_;rintro e w1 ⟨hb,he⟩;rw[HX.out] at he;obtain⟨n1,s1,rfl⟩:=he;have HB:=hid hb;clear hb)
  refine⟨rfl,HB.out,?_⟩
  rw[HX.out]
  exact⟨_,_,rfl⟩
 | some x=>
  obtain⟨n,r⟩:=x
  have hn:=(Fr.rd_back hx).2
  have HX:=hid hx
  clear hx
  by_cases hlt:n < limit
  ·have hlt':(n:Int) < limit:=by omega
   go_enter Tryz.func116,Tryz.ntmps116
   go_wp2_with (first
    | (go_at_call 185;refine HC.out.mono ?_;rintro e w1 ⟨hb,he⟩;rw[HX.out] at he;obtain⟨rfl,hr2⟩:=he;have HB:=hid (And.intro hb hr2);clear hb hr2)
    | (go_at_call_of 113 (Value.bool true);refine (fNeed_true b _ _).mono ?_;rintro e w2 ⟨rfl,hw⟩;subst hw))
   go_ret
   refine⟨HB.out.1,?_⟩
   rw[HX.out]
   simp only[]
   rw[if_pos hlt]
   exact⟨rfl,HB.out.2⟩
  ·have hlt':decide ((n:Int) < limit)=false:=decide_eq_false (by omega)
   go_enter Tryz.func116,Tryz.ntmps116
   go_wp2_with (first
    | (go_at_call 185;refine HC.out.mono ?_;rintro e w1 ⟨hb,he⟩;rw[HX.out] at he;obtain⟨rfl,hr2⟩:=he;have HB:=hid (And.intro hb hr2);clear hb hr2)
    | (go_at_call_of 113 (Value.bool false);refine (fNeed_false b _ _ _ HB.out.2.c1).mono ?_;rintro e w2 ⟨rfl,hw⟩;subst hw))
   refine⟨rfl,HB.out.1,?_⟩
   rw[HX.out]
   simp only[]
   rw[if_neg hlt]
   exact⟨_,_,rfl⟩
def PMomEnd (l:List UInt8)(k:Nat)(v:Value)(b:Nat)(w:World)(e:Ending)(w':World):Prop:=
 But b w w' ∧
  match Fr.rd (l.drop k) with
  | some (n,r)=>e=.returned (.int .i64 (Fr.zag n))∧RdAt w' b v (l.length - r.length)
  | none=>BytesPanic e
theorem fMoment_any (F:Nat→Prop)(v:Value)(l:List UInt8)(b k:Nat)(w:World)(hr:RdAt w b v k)(hv:BytesAt F w v l)(hF:¬ F b)(hk:k≤l.length)(hl:l.length≤1000000) :
  Calls Tryz.prog 115 #[.pointer (some ⟨b,0,none⟩)] w (PMomEnd l k v b w):=by
 have HC:=hid (fNumber_any F v l b k w hr hv hF hk hl)
 clear hr hv
 cases hx:Fr.rd (l.drop k) with
 | none=>
  have HX:=hid hx
  clear hx
  go_enter Tryz.func115,Tryz.ntmps115
  go_wp2_with (go_at_call 185;refine HC.out.mono ?_;rintro e w1 ⟨hb,he⟩;rw[HX.out] at he;obtain⟨n1,s1,rfl⟩:=he;have HB:=hid hb;clear hb)
  refine⟨rfl,HB.out,?_⟩
  rw[HX.out]
  exact⟨_,_,rfl⟩
 | some x=>
  obtain⟨n,r⟩:=x
  have hn:=(Fr.rd_back hx).2
  have HX:=hid hx
  clear hx
  have ha:bits .and .u64 (n:Int) 1=((n % 2:Nat):Int):=by
   have h1:=u64_and_nat n 1 hn (by omega)
   rw[Nat.and_one_is_mod] at h1
   exact h1
  by_cases h2:n % 2=1
  ·have h2':(((n % 2:Nat):Int) == 1)=true:=by rw[h2];rfl
   have hnot:bits .xor .i64 (-1) ((n:Int) / 2)=-1 - (n:Int) / 2:=by
    have:=i64_not (n / 2) (by omega)
    rw[show (((n / 2:Nat)):Int)=(n:Int) / 2 by omega] at this
    exact this
   have hz:Fr.zag n=-1 - (n:Int) / 2:=by unfold Fr.zag;rw[if_pos h2];omega
   have HZ:=hid hz
   clear hz h2
   go_enter Tryz.func115,Tryz.ntmps115
   go_wp2_with (go_at_call 185;refine HC.out.mono ?_;rintro e w1 ⟨hb,he⟩;rw[HX.out] at he;obtain⟨rfl,hr2⟩:=he;have HB:=hid (And.intro hb hr2);clear hb hr2)
   go_ret
   refine⟨HB.out.1,?_⟩
   rw[HX.out]
   refine⟨?_,HB.out.2⟩
   rw[HZ.out]
   rfl
  ·have h2':(((n % 2:Nat):Int) == 1)=false:=by simp;omega
   have hz:Fr.zag n=(n:Int) / 2:=by unfold Fr.zag;rw[if_neg h2];omega
   have HZ:=hid hz
   clear hz h2
   go_enter Tryz.func115,Tryz.ntmps115
   go_wp2_with (go_at_call 185;refine HC.out.mono ?_;rintro e w1 ⟨hb,he⟩;rw[HX.out] at he;obtain⟨rfl,hr2⟩:=he;have HB:=hid (And.intro hb hr2);clear hb hr2)
   go_ret
   refine⟨HB.out.1,?_⟩
   rw[HX.out]
   refine⟨?_,HB.out.2⟩
   rw[HZ.out]
   rfl
theorem BytesAt.tailS {F:Nat→Prop}{w:World}{a:Addr}{cap:Nat}{l:List UInt8}(h:BytesAt F w (.slice (some a) l.length cap) l)(i:Int)(k:Nat)(hi:i=k)(hk:k≤l.length) :
  ∃a' c',l.length - k≤c'∧(∀W,(Instr.slice 25 (.slice (some a) l.length cap) (some (.int .i64 i)) none none).run Tryz.prog W=.ok (.slice (some a') (l.length - k) c') W)∧BytesAt F w (.slice (some a') (l.length - k) c') (l.drop k):=by
 subst hi
 have hcap:l.length≤cap:=by
  obtain⟨ao,cap',he,h1,-⟩:=RowAt.slice h
  cases he
  exact h1
 have hsl:∃a' c',l.length - k≤c'∧Go.sliced (some a) k l.length cap 1=.slice (some a') (l.length - k) c':=by
  unfold Go.sliced
  split
  ·exact⟨_,_,by omega,rfl⟩
  ·exact⟨_,_,by omega,rfl⟩
 obtain⟨a',c',hc,e⟩:=hsl
 refine⟨a',c',hc,fun W=>?_,e ▸ h.from k hk⟩
 rw[← e,run_slice_l W 25 (some a) l.length cap (by rw[Tryz.elemBytes];exact Tryz.underlying25) .i64 k (by omega) (by omega),Tryz.elemBytes,Tryz.sizeOf5]
 simp[Result.andThen]
theorem BytesAt.headUN {F:Nat→Prop}{w:World}{a:Addr}{n cap:Nat}{l:List UInt8}(h:BytesAt F w (.slice (some a) n cap) l)(k:Nat)(hk:k≤n)(hc:n≤cap)(hn:n=l.length) :
  ∃a' c',(∀W,(Instr.slice 25 (.slice (some a) n cap) none (some (.int .u64 k)) none).run Tryz.prog W=.ok (.slice (some a') k c') W)∧BytesAt F w (.slice (some a') k c') (l.take k):=by
 subst hn
 have hsl:∃a' c',Go.sliced (some a) 0 k cap 1=.slice (some a') k c':=by
  unfold Go.sliced
  split
  ·exact⟨_,_,rfl⟩
  ·exact⟨_,_,rfl⟩
 obtain⟨a',c',e⟩:=hsl
 refine⟨a',c',fun W=>?_,e ▸ h.to k hk⟩
 rw[← e,run_slice_h W 25 (some a) l.length cap (by rw[Tryz.elemBytes];exact Tryz.underlying25) .u64 k (by omega) (by omega),Tryz.elemBytes,Tryz.sizeOf5]
 simp[Result.andThen]
def TextEnd (l:List UInt8)(k:Nat)(v:Value)(b:Nat)(w:World)(e:Ending)(w':World):Prop:=
 But b w w' ∧
  match Fr.rd (l.drop k) with
  | some (n,r)=>if n≤r.length then e=.returned (.string ⟨(r.take n).toArray⟩)∧RdAt w' b v (l.length - r.length+n) else BytesPanic e
  | none=>BytesPanic e
theorem rd_suffix {l:List UInt8}{k n:Nat}{r:List UInt8}(h:Fr.rd (l.drop k)=some (n,r)):r.length≤l.length∧l.drop (l.length - r.length)=r:=by
 have e:=(Fr.rd_back h).1
 have e2:l=(l.take k++Fr.num n)++r:=by rw[List.append_assoc,← e,List.take_append_drop]
 have e3:l.length=(l.take k++Fr.num n).length+r.length:=by
  conv=>lhs;rw[e2]
  rw[List.length_append]
 refine⟨by omega,?_⟩
 conv=>lhs;rw[e2]
 rw[List.length_append,Nat.add_sub_cancel,List.drop_left]
theorem fText_any (F:Nat→Prop)(a:Addr)(cap:Nat)(l:List UInt8)(b k:Nat)(w:World)(hr:RdAt w b (.slice (some a) l.length cap) k)(hv:BytesAt F w (.slice (some a) l.length cap) l)(hF:¬ F b)(hk:k≤l.length)(hl:l.length≤1000000) :
  Calls Tryz.prog 184 #[.pointer (some ⟨b,0,none⟩)] w (TextEnd l k (.slice (some a) l.length cap) b w):=by
 have HC:=hid (fNumber_any F _ l b k w hr hv hF hk hl)
 have HV:=hid hv
 clear hr hv
 cases hx:Fr.rd (l.drop k) with
 | none=>
  have HX:=hid hx
  clear hx
  go_enter Tryz.func184,Tryz.ntmps184
  go_wp2_with (go_at_call 185;refine HC.out.mono ?_;rintro e w1 ⟨hb,he⟩;rw[HX.out] at he;obtain⟨n1,s1,rfl⟩:=he;have HB:=hid hb;clear hb)
  refine⟨rfl,HB.out,?_⟩
  rw[HX.out]
  exact⟨_,_,rfl⟩
 | some x=>
  obtain⟨n,r⟩:=x
  have hn:=(Fr.rd_back hx).2
  obtain⟨hrl,hdr⟩:=rd_suffix hx
  obtain⟨a1,c1,hc1,hs1,hv1⟩:=HV.out.tailS ((l.length - r.length:Nat):Int) (l.length - r.length) rfl (by omega)
  rw[hdr] at hv1
  have hlr:l.length - (l.length - r.length)=r.length:=by omega
  rw[hlr] at hs1 hv1 hc1
  have HX:=hid hx
  have HV1:=hid hv1
  clear hx hdr hv1 hlr
  by_cases hle:n≤r.length
  ·obtain⟨a2,c2,hs2,hv2⟩:=HV1.out.headUN n hle hc1 rfl
   have HV2:=hid hv2
   clear hv2
   have hle':(n:Int)≤(r.length:Int):=by omega
   go_enter Tryz.func184,Tryz.ntmps184
   go_wp2_with (first
    | (go_at_call 185;refine HC.out.mono ?_;rintro e w1 ⟨hb,he⟩;rw[HX.out] at he;obtain⟨rfl,hr2⟩:=he;have d0:=hr2.c0;have d1:=hr2.c1;have df:=hr2.f 1;have HB:=hid (And.intro hb hr2);clear hb hr2)
    | (go_at_call_of 113 (Value.bool true);refine (fNeed_true b _ _).mono ?_;rintro e w2 ⟨rfl,hw⟩;have hw':=hw.symm;subst hw'))
   go_quiet (fail)
   have htx:=fun (m:Int)=>BytesAt.text (w:=(w1.drewN nq).setCell ⟨b,1,none⟩ (.int .i64 m)) (HV2.out.but ((HB.out.1.drewR nq).trans (but_set _ b 1 _)) hF) (by intro e;cases e)
   go_wp2_with (first
    | (go_at_call_of 113 (Value.bool true);refine (fNeed_true b _ _).mono ?_;rintro e w2 ⟨rfl,hw⟩;have hw':=hw.symm;subst hw'))
   go_ret
   refine⟨(HB.out.1.drewR nq).trans (but_set _ b 1 _),?_⟩
   rw[HX.out]
   simp only[]
   rw[if_pos hle]
   exact⟨rfl,(show RdAt (w1.drewN nq) b _ _ from HB.out.2).set _ _ (by omega)⟩
  ·have hle':decide ((n:Int)≤(r.length:Int))=false:=decide_eq_false (by omega)
   go_enter Tryz.func184,Tryz.ntmps184
   go_wp2_with (first
    | (go_at_call 185;refine HC.out.mono ?_;rintro e w1 ⟨hb,he⟩;rw[HX.out] at he;obtain⟨rfl,hr2⟩:=he;have d0:=hr2.c0;have d1:=hr2.c1;have HB:=hid (And.intro hb hr2);clear hb hr2))
   go_quiet (fail)
   go_wp2_with (first
    | (go_at_call_of 113 (Value.bool false);refine (fNeed_false b _ _ _ (show (w1.drewN nq).cell? ⟨b,1,none⟩=_ from d1)).mono ?_;rintro e w2 ⟨rfl,hw⟩;have hw':=hw.symm;subst hw'))
   refine⟨rfl,HB.out.1.drewR nq,?_⟩
   rw[HX.out]
   simp only[]
   rw[if_neg hle]
   exact⟨_,_,rfl⟩
end Go.Proofs.YtfldcmdhneegmaaGreatDoor

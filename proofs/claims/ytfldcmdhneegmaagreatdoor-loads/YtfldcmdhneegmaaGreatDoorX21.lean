import Derived.Test.YtfldcmdhneegmaaGreatDoorX01
import Derived.Test.YtfldcmdhneegmaaGreatDoorX07
import Derived.Laws.IdiomStrings
import Derived.Laws.BitsAllLaws
import Derived.Laws.DeepStrings4
import Derived.WalkLawsBesides
import Derived.RegionDies
import Derived.OneCell
set_option maxHeartbeats 4000000
set_option maxRecDepth 1000000
namespace Go.Proofs.YtfldcmdhneegmaaGreatDoor
open Go.RowKit Go.Lib
theorem u8_nat (n:Nat):((UInt8.ofNat n).toNat:Int)=(n:Int) % 256:=by
 have:(UInt8.ofNat n).toNat=n % 256:=by simp
 omega
theorem not64 (n:Nat)(h:n < 18446744073709551616):18446744073709551615 ^^^ n=18446744073709551615 - n:=by
 have h1:=congrArg BitVec.toNat (BitVec.allOnes_xor (x:=BitVec.ofNat 64 n))
 have h2:n % 18446744073709551616=n:=Nat.mod_eq_of_lt h
 simpa [h2] using h1
theorem u64_not (n:Nat)(h:n < 18446744073709551616):bits .xor .u64 18446744073709551615 (n:Int)=((18446744073709551615 - n:Nat):Int):=by
 have:=u64_xor_nat 18446744073709551615 n (by decide) h
 rw[not64 n h] at this
 exact this
def But (b:Nat)(w w':World):Prop:=w.grownBy w' (some b)
theorem blk_setF {w:World}{b:Nat}{x y:Value}{t:TypeId}(h:w.heap[b]?=some (.cells #[x,y] t (0,0)))(u:Value) :
  (w.setCell ⟨b,0,none⟩ u).heap[b]?=some (.cells #[u,y] t (0,0))∧(w.setCell ⟨b,1,none⟩ u).heap[b]?=some (.cells #[x,u] t (0,0)):=by
 have hlt:=lt_of_block h
 have h':w.heap[b]=.cells #[x,y] t (0,0):=by simpa [Array.getElem?_eq_getElem hlt] using h
 refine⟨?_,?_⟩
 all_goals
  show (w.heap.modify b _)[b]?=_
  rw[Array.getElem?_eq_getElem (by simpa using hlt),Array.getElem_modify_self,h']
  rfl
theorem but_set (w:World)(b i:Nat)(u:Value):But b w (w.setCell ⟨b,i,none⟩ u):=by
 refine⟨rfl,rfl,rfl,by simp[World.setCell],fun k hk hne=>?_⟩
 have hne':b≠k:=fun e=>hne (by rw[e])
 show (w.heap.modify b _)[k]?=_
 rw[Array.getElem?_modify,if_neg hne']
theorem But.refl (b:Nat)(w:World):But b w w:=⟨rfl,rfl,rfl,Nat.le_refl _,fun _ _ _=>rfl⟩
theorem But.trans {b:Nat}{w w1 w2:World}(h:But b w w1)(h':But b w1 w2):But b w w2:=
 ⟨h'.os.trans h.os,h'.tape.trans h.tape,h'.output.trans h.output,Nat.le_trans h.size h'.size,fun k hk hne=>(h'.block k (Nat.lt_of_lt_of_le hk h.size) hne).trans (h.block k hk hne)⟩
theorem But.drew {b:Nat}{w w':World}{q:Nat}(h:But b (w.drewN q) w'):But b w w':=⟨h.os,h.tape,h.output,h.size,h.block⟩
theorem But.drewR {b:Nat}{w w':World}(h:But b w w')(q:Nat):But b w (w'.drewN q):=⟨h.os,h.tape,h.output,h.size,h.block⟩
theorem But.ofBelow {b:Nat}{w w':World}(h:Below w.heap.size w w'):But b w w':=⟨h.os,h.tape,h.output,h.size,fun k hk _=>h.block k hk⟩
theorem pow7 (k:Nat):(2:Nat) ^ (7 * k)=128 ^ k:=by rw[Nat.pow_mul]
theorem pow_le {k:Nat}(h:k≤9):128 ^ k≤9223372036854775808:=Nat.le_trans (Nat.pow_le_pow_right (by decide) h) (by decide)
def byteCells (l:List UInt8):List Value:=l.map fun b=>.int .u8 b.toNat
def BytesAt (F:Nat→Prop)(w:World)(v:Value)(l:List UInt8):Prop:=RowAt F w v 1 l.length (byteCells l)
theorem BytesAt.below {F:Nat→Prop}{w w':World}{v:Value}{l:List UInt8}(h:BytesAt F w v l)(hb:Below w.heap.size w w'):BytesAt F w' v l:=RowAt.below h hb
theorem BytesAt.get {F:Nat→Prop}{w:World}{ao:Option Addr}{n cap:Nat}{l:List UInt8}(h:BytesAt F w (.slice ao n cap) l){i:Nat}(hi:i < l.length):∃b o,ao=some ⟨b,o,none⟩∧w.cell? ⟨b,o+i,none⟩=some (.int .u8 l[i].toNat):=by
 rcases h.2 with ⟨_,h0⟩ | ⟨b,o,cap',he,_,_,_,_,r⟩
 ·omega
 ·cases he
  refine⟨b,o,rfl,?_⟩
  apply r i
  simp[byteCells,hi]
theorem BytesAt.text {F:Nat→Prop}{w:World}{v:Value}{l:List UInt8}(h:BytesAt F w v l)(hn:v≠.slice none 0 0):(convert 25 9 v).run Tryz.prog w=.ok (.string ⟨l.toArray⟩) w:=by
 rcases h.2 with ⟨he,_⟩ | ⟨b,o,cap,he,_,_,_,_,r⟩
 ·exact absurd he hn
 ·subst he
  refine run_convert_bytes_back (P:=Tryz.prog) w 25 9 5 ⟨b,o,none⟩ cap l Tryz.underlying25 Tryz.underlying5 Tryz.underlying9 ?_
  intro j hj
  have:=r j (.int .u8 l[j].toNat) (by simp[byteCells,hj])
  by_cases h0:j=0
  ·subst h0;simpa [Addr.add] using this
  ·simpa [Addr.add,h0] using this
theorem fSum_any (F:Nat→Prop)(v:Value)(l:List UInt8)(w:World)(h:BytesAt F w v l) :
  Calls Tryz.prog 128 #[v] w fun e w'=>e=.returned (.int .u32 (Fr.sumN l))∧w'=w:=by
 obtain⟨ao,cap,rfl,-,-⟩:=RowAt.slice h
 have H:=hid h
 clear h
 go_enter Tryz.func128,Tryz.ntmps128
 have hml:l.length≤9223372036854775807:=by
  obtain⟨_,_,_,h1,h2⟩:=RowAt.slice H.out
  unfold maxLen at h2
  omega
 go_wp2
 go_loop [3,8] (fun n i=>∃k:Nat,k≤l.length∧i=.int .i64 k∧n=.int .u32 (Fr.sumN (l.take k))) (fun _ i=>l.length - (intOf i).toNat)
 case atStart=>exact⟨0,Nat.zero_le _,rfl,rfl⟩
 case round=>
  obtain⟨k,hk,rfl,rfl⟩:=hrel
  have hlt32:=Fr.sumN_lt (l.take k)
  by_cases hlt:k < l.length
  ·obtain⟨b1,o1,rfl,c1⟩:=H.out.get hlt
   have hb:=l[k].toNat_lt
   have hx:=u32_xor_nat (Fr.sumN (l.take k)) l[k].toNat hlt32 (by omega)
   go_wp2
   go_round
   case rel=>
    refine⟨k+1,by omega,by go_num,?_⟩
    rw[List.take_add_one,List.getElem?_eq_getElem hlt,Option.toList_some,Fr.sumN_snoc]
    unfold Fr.sumStep
    simp
   case measure=>simp[intOf];omega
  ·obtain rfl:k=l.length:=by omega
   rw[List.take_length] at *
   go_wp2
   go_ret
   exact⟨rfl,rfl⟩
theorem or_val (n b:Nat)(hb:b < 256):bits .or .u32 ((n:Int) * 256 % 4294967296) (b:Int)=((n * 256 % 4294967296+b:Nat):Int):=by
 have h1:=u32_or_nat (n * 256 % 4294967296) b (by omega) (by omega)
 have h2:=Nat.two_pow_add_eq_or_of_lt (i:=8) (b:=b) (by omega) (n % 16777216)
 have h3:2 ^ 8 * (n % 16777216)=n * 256 % 4294967296:=by omega
 rw[h3] at h2
 rw[← h2] at h1
 rw[← h1]
 rfl
theorem fSumIn_any (F:Nat→Prop)(v:Value)(l:List UInt8)(w:World)(h:BytesAt F w v l) :
  Calls Tryz.prog 227 #[v] w fun e w'=>e=.returned (.int .u32 (Fr.val l))∧w'=w:=by
 obtain⟨ao,cap,rfl,-,-⟩:=RowAt.slice h
 have H:=hid h
 clear h
 go_enter Tryz.func227,Tryz.ntmps227
 have hml:l.length≤9223372036854775807:=by
  obtain⟨_,_,_,h1,h2⟩:=RowAt.slice H.out
  unfold maxLen at h2
  omega
 go_wp2
 go_loop [3,8] (fun n i=>∃k:Nat,k≤l.length∧i=.int .i64 k∧n=.int .u32 (Fr.val (l.take k))) (fun _ i=>l.length - (intOf i).toNat)
 case atStart=>exact⟨0,Nat.zero_le _,rfl,rfl⟩
 case round=>
  obtain⟨k,hk,rfl,rfl⟩:=hrel
  have hlt32:=Fr.val_lt (l.take k)
  by_cases hlt:k < l.length
  ·obtain⟨b1,o1,rfl,c1⟩:=H.out.get hlt
   have hb:=l[k].toNat_lt
   have hx:=or_val (Fr.val (l.take k)) l[k].toNat hb
   go_wp2
   go_round
   case rel=>
    refine⟨k+1,by omega,by go_num,?_⟩
    rw[List.take_add_one,List.getElem?_eq_getElem hlt,Option.toList_some,Fr.val_snoc]
    unfold Fr.valStep
    simp
   case measure=>simp[intOf];omega
  ·obtain rfl:k=l.length:=by omega
   rw[List.take_length] at *
   go_wp2
   go_ret
   exact⟨rfl,rfl⟩
theorem BytesAt.to {F:Nat→Prop}{w:World}{ao:Option Addr}{n cap:Nat}{l:List UInt8}(h:BytesAt F w (.slice ao n cap) l)(k:Nat)(hk:k≤l.length):BytesAt F w (Go.sliced ao 0 k cap 1) (l.take k):=by
 have hn:n=l.length:=by
  rcases h.2 with ⟨he,h0⟩ | ⟨b,o,cap',he,_⟩
  ·cases he;exact h0.symm
  ·cases he;rfl
 subst hn
 have:=RowAt.sliced (k:=1) h 0 k (by omega) hk
 unfold BytesAt
 have e1:(l.take k).length=k - 0:=by rw[List.length_take];omega
 have e2:byteCells (l.take k)=((byteCells l).drop (0 * 1)).take ((k - 0) * 1):=by simp[byteCells,List.map_take]
 rw[e1,e2]
 exact this
theorem BytesAt.from {F:Nat→Prop}{w:World}{ao:Option Addr}{n cap:Nat}{l:List UInt8}(h:BytesAt F w (.slice ao n cap) l)(k:Nat)(hk:k≤l.length):BytesAt F w (Go.sliced ao k n cap 1) (l.drop k):=by
 have hn:n=l.length:=by
  rcases h.2 with ⟨he,h0⟩ | ⟨b,o,cap',he,_⟩
  ·cases he;exact h0.symm
  ·cases he;rfl
 subst hn
 have:=RowAt.sliced (k:=1) h k l.length hk (Nat.le_refl _)
 unfold BytesAt
 have e1:(l.drop k).length=l.length - k:=by rw[List.length_drop]
 have e2:byteCells (l.drop k)=((byteCells l).drop (k * 1)).take ((l.length - k) * 1):=by
  simp[byteCells,List.map_drop]
  rw[List.take_of_length_le (by simp)]
 rw[e1,e2]
 exact this
theorem Tryz.elemBytes:Tryz.prog.elem 25=5:=by kernel_rfl
theorem BytesAt.head {F:Nat→Prop}{w:World}{a:Addr}{cap:Nat}{l:List UInt8}(h:BytesAt F w (.slice (some a) l.length cap) l)(i:Int)(k:Nat)(hi:i=k)(hk:k≤l.length)(hc:l.length≤cap) :
  ∃a' c',(∀W,(Instr.slice 25 (.slice (some a) l.length cap) none (some (.int .i64 i)) none).run Tryz.prog W=.ok (.slice (some a') k c') W)∧BytesAt F w (.slice (some a') k c') (l.take k):=by
 subst hi
 have hsl:∃a' c',Go.sliced (some a) 0 k cap 1=.slice (some a') k c':=by
  unfold Go.sliced
  split
  ·exact⟨_,_,rfl⟩
  ·exact⟨_,_,rfl⟩
 obtain⟨a',c',e⟩:=hsl
 refine⟨a',c',fun W=>?_,e ▸ h.to k hk⟩
 ·rw[← e]
  rw[run_slice_h W 25 (some a) l.length cap (by rw[Tryz.elemBytes];exact Tryz.underlying25) .i64 k (by omega) (by omega),Tryz.elemBytes,Tryz.sizeOf5]
  simp[Result.andThen]
theorem BytesAt.tail {F:Nat→Prop}{w:World}{a:Addr}{cap:Nat}{l:List UInt8}(h:BytesAt F w (.slice (some a) l.length cap) l)(i:Int)(k:Nat)(hi:i=k)(hk:k≤l.length) :
  ∃vs,vs≠.slice none 0 0∧(∀W,(Instr.slice 25 (.slice (some a) l.length cap) (some (.int .i64 i)) none none).run Tryz.prog W=.ok vs W)∧BytesAt F w vs (l.drop k):=by
 subst hi
 refine⟨Go.sliced (some a) k l.length cap 1,?_,fun W=>?_,h.from k hk⟩
 ·unfold Go.sliced
  split<;>(intro e;cases e)
 ·rw[run_slice_l W 25 (some a) l.length cap (by rw[Tryz.elemBytes];exact Tryz.underlying25) .i64 k (by omega) (by omega),Tryz.elemBytes,Tryz.sizeOf5]
  simp[Result.andThen]
theorem fSumOf_any (F:Nat→Prop)(v:Value)(l:List UInt8)(w:World)(h:BytesAt F w v l)(h4:4≤l.length)(hl:l.length≤1000000) :
  Calls Tryz.prog 183 #[v] w fun e w'=>e=.returned (.int .u32 (Fr.val (l.drop (l.length - 4))))∧w'=w:=by
 obtain⟨ao,cap,rfl,-,-⟩:=RowAt.slice h
 obtain⟨b1,o1,rfl,-⟩:=BytesAt.get h (i:=0) (by omega)
 obtain⟨v2,hn2,hs2,hv2⟩:=h.tail ((l.length:Int) - 4) (l.length - 4) (by omega) (by omega)
 have HC:=hid (fSumIn_any F v2 _ w hv2)
 clear h hv2
 go_enter Tryz.func183,Tryz.ntmps183
 go_wp2_with (go_at_call 227;refine HC.out.mono ?_;rintro e w1 ⟨rfl,hw⟩;subst hw)
 go_ret
 exact⟨rfl,rfl⟩
def BytesPanic (e:Ending):Prop:=∃(n:Int) (s:ByteArray),e=.panicked [{ v:=.iface 139 (.agg #[.int .i64 n,.string s]),recovered:=false }]
theorem fNeed_true (b:Nat)(s:ByteArray)(w:World) :
  Calls Tryz.prog 113 #[.pointer (some ⟨b,0,none⟩),.bool true,.string s] w fun e w'=>e=.returned (.tuple #[])∧w'=w:=by
 go_enter Tryz.func113,Tryz.ntmps113
 go_wp2
 go_end0
 exact⟨rfl,rfl⟩
theorem fNeed_false (b:Nat)(n:Int)(s:ByteArray)(w:World)(hc:w.cell? ⟨b,1,none⟩=some (.int .i64 n)) :
  Calls Tryz.prog 113 #[.pointer (some ⟨b,0,none⟩),.bool false,.string s] w fun e w'=>e=.panicked [{ v:=.iface 139 (.agg #[.int .i64 n,.string s]),recovered:=false }]∧w'=w:=by
 go_enter Tryz.func113,Tryz.ntmps113
 go_wp2
 exact⟨rfl,rfl,rfl⟩
def RdAt (w:World)(b:Nat)(v:Value)(k:Nat):Prop:=w.heap[b]?=some (.cells #[v,.int .i64 k] 207 (0,0))
theorem RdAt.c0 {w:World}{b:Nat}{v:Value}{k:Nat}(h:RdAt w b v k):w.cell? ⟨b,0,none⟩=some v:=by
 unfold RdAt at h
 simp[World.cell?,h]
theorem RdAt.c1 {w:World}{b:Nat}{v:Value}{k:Nat}(h:RdAt w b v k):w.cell? ⟨b,1,none⟩=some (.int .i64 k):=by
 unfold RdAt at h
 simp[World.cell?,h]
theorem RdAt.f {w:World}{b:Nat}{v:Value}{k:Nat}(h:RdAt w b v k)(i:Nat):w.frozen? ⟨b,i,none⟩=false:=by
 unfold RdAt at h
 simp[World.frozen?,h]
theorem RdAt.set {w:World}{b:Nat}{v:Value}{k:Nat}(h:RdAt w b v k)(n:Int)(j:Nat)(e:n=j):RdAt (w.setCell ⟨b,1,none⟩ (.int .i64 n)) b v j:=by
 subst e
 exact (blk_setF h _).2
theorem RowAt.but {F:Nat→Prop}{w w':World}{v:Value}{k n:Nat}{xs:List Value}{b:Nat}(h:RowAt F w v k n xs)(hb:But b w w')(hF:¬ F b):RowAt F w' v k n xs:=
 h.frame hb.size (fun i hi hFi=>hb.block i hi (by rintro e;cases e;exact hF hFi))
theorem BytesAt.but {F:Nat→Prop}{w w':World}{v:Value}{l:List UInt8}{b:Nat}(h:BytesAt F w v l)(hb:But b w w')(hF:¬ F b):BytesAt F w' v l:=RowAt.but h hb hF
def NextEnd (l:List UInt8)(k:Nat)(v:Value)(b:Nat)(w:World)(e:Ending)(w':World):Prop:=
 But b w w'∧if h:k < l.length then e=.returned (.int .u8 l[k].toNat)∧RdAt w' b v (k+1) else BytesPanic e
theorem nextEnd_panic {l:List UInt8}{k:Nat}{v:Value}{b:Nat}{w w':World}{n:Int}{s:ByteArray}(h:¬ k < l.length)(hb:But b w w'):NextEnd l k v b w (.panicked [{ v:=.iface 139 (.agg #[.int .i64 n,.string s]),recovered:=false }]) w':=by
 unfold NextEnd
 rw[dif_neg h]
 exact⟨hb,n,s,rfl⟩
theorem nextEnd_ok {l:List UInt8}{k:Nat}{v:Value}{b:Nat}{w w':World}(h:k < l.length)(hb:But b w w')(hr:RdAt w' b v (k+1)):NextEnd l k v b w (.returned (.int .u8 l[k].toNat)) w':=by
 unfold NextEnd
 rw[dif_pos h]
 exact⟨hb,rfl,hr⟩
theorem fNext_any (F:Nat→Prop)(v:Value)(l:List UInt8)(b k:Nat)(w:World)(hr:RdAt w b v k)(hv:BytesAt F w v l)(hk:k≤l.length)(hl:l.length≤1000000) :
  Calls Tryz.prog 228 #[.pointer (some ⟨b,0,none⟩)] w (NextEnd l k v b w):=by
 obtain⟨ao,cap,rfl,-,-⟩:=RowAt.slice hv
 have c0:=hr.c0
 have c1:=hr.c1
 have f1:=hr.f 1
 by_cases hlt:k < l.length
 ·obtain⟨b1,o1,rfl,c2⟩:=BytesAt.get hv hlt
  have hlt':(k:Int) < l.length:=by omega
  have HR:=hid hr
  clear hr hv
  go_enter Tryz.func228,Tryz.ntmps228
  go_wp2
  go_quiet ((go_at_call 113;exact Calls.quiet_of_same (fNeed_true _ _ _)))
  go_wp2
  go_quiet (fail)
  go_wp2
  go_ret
  exact nextEnd_ok hlt ((but_set _ b 1 _).drew) ((show RdAt (w.drewN _) b _ k from HR.out).set _ (k+1) (by omega))
 ·have hlt':¬ (k:Int) < l.length:=by omega
  have HR:=hid hr
  clear hr hv
  go_enter Tryz.func228,Tryz.ntmps228
  go_wp2
  go_region_dies
  all_goals (refine (fNeed_false b k _ _ (by exact c1)).mono ?_;rintro e w1 ⟨rfl,hw⟩;subst hw;exact⟨rfl,nextEnd_panic hlt ⟨rfl,rfl,rfl,Nat.le_refl _,fun _ _ _=>rfl⟩⟩)
theorem Tryz.infoByteW:(Tryz.prog.info? 5).map (fun i=>(i.zero,i.size,i.bytes))=some (some (.int .u8 0),1,1):=by kernel_rfl
theorem one_cell {w:World}{b:Nat}{v:Value}{t:TypeId}(h:w.heap[b]?=some (.cells #[v] t (0,0))):w.cell? ⟨b,0,none⟩=some v∧w.frozen? ⟨b,0,none⟩=false:=by simp[World.cell?,World.frozen?,h]
theorem one_set {w:World}{b:Nat}{v:Value}{t:TypeId}(h:w.heap[b]?=some (.cells #[v] t (0,0)))(u:Value):(w.setCell ⟨b,0,none⟩ u).heap[b]?=some (.cells #[u] t (0,0)):=by
 have hlt:=lt_of_block h
 have h':w.heap[b]=.cells #[v] t (0,0):=by simpa [Array.getElem?_eq_getElem hlt] using h
 show (w.heap.modify b _)[b]?=_
 rw[Array.getElem?_eq_getElem (by simpa using hlt),Array.getElem_modify_self,h']
 rfl
theorem oneCell_bytes (l:List UInt8):∀u∈byteCells l,u.oneCell'=true:=by
 intro u hu
 obtain⟨b,-,rfl⟩:=List.mem_map.1 hu
 rfl
theorem own_nothing {W:World}{g base:Nat}{e:TypeId}(h:W.heap[g]?=some (.cells #[] e (0,0)))(hb:base≤g):W.ownsRow base e 1 (.slice (some ⟨g,0,none⟩) 0 0) 0 []:=
 ⟨by simp,Or.inr ⟨g,0,#[],rfl,hb,h,Nat.le_refl _,by unfold maxLen;omega,by simp,by simp⟩⟩
end Go.Proofs.YtfldcmdhneegmaaGreatDoor

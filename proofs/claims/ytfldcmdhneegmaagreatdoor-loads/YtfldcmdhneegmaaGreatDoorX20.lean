import Derived.Test.YtfldcmdhneegmaaGreatDoorX18
import Derived.Lib.ItoaNum
import Derived.Test.YtfldcmdhneegmaaGreatDoorX07
set_option maxHeartbeats 4000000
set_option maxRecDepth 1000000
namespace Go.Proofs.YtfldcmdhneegmaaGreatDoor
namespace Pl
open Go.Lib
def stepText (x:Int × Bool):List UInt8:=encodeRune x.1++((if x.2 then [43] else [])++[32])
def stepsText (l:List (Int × Bool)):List UInt8:=l.flatMap stepText
def text (l:List (Int × Bool))(win:Int):List UInt8:=stepsText l++([47,32]++itoa win)
theorem encodeRune_length (r:Int):1≤(encodeRune r).length∧(encodeRune r).length≤4:=by
 have:=encodeRuneZ_length r
 simpa [encodeRune] using this
theorem stepText_length (x:Int × Bool):(stepText x).length≤6:=by
 have:=(encodeRune_length x.1).2
 unfold stepText
 split<;>simp<;>omega
theorem stepsText_length (l:List (Int × Bool)):(stepsText l).length≤6 * l.length:=by
 induction l with
 | nil=>simp[stepsText]
 | cons x r ih=>
  have h1:=stepText_length x
  have h2:stepsText (x::r)=stepText x++stepsText r:=rfl
  rw[h2,List.length_append,List.length_cons]
  omega
theorem stepsText_snoc (l:List (Int × Bool))(x:Int × Bool):stepsText (l++[x])=stepsText l++stepText x:=by simp[stepsText]
theorem take_snoc {α:Type}(l:List α)(k:Nat)(h:k < l.length):l.take (k+1)=l.take k++[l[k]]:=by
 rw[List.take_succ_eq_append_getElem h]
theorem decDigits_length (u:Nat)(h:u < 10000):(decDigits u).length≤4:=by
 rw[decDigits]
 split
 ·simp
 ·rw[decDigits]
  split
  ·simp
  ·rw[decDigits]
   split
   ·simp
   ·rw[decDigits]
    rw[dif_pos (by omega)]
    simp
theorem itoa_eq (n:Int)(h:0≤n):itoa n=decDigits n.toNat:=by
 unfold itoa
 rw[if_neg (by omega)]
theorem itoa_length (n:Int)(h:0≤n)(h9:n≤9999):(itoa n).length≤4:=by
 rw[itoa_eq n h]
 exact decDigits_length _ (by omega)
end Pl
namespace Pl
open Go.Lib
def runL:List Int→St→Option St
 | [],st=>some st
 | c::r,st=>match take st c with
  | none=>none
  | some st'=>runL r st'
def encodeAll (rs:List Int):List UInt8:=rs.flatMap encodeRune
theorem runL_append (a b:List Int)(st:St):runL (a++b) st=(match runL a st with | none=>none | some st'=>runL b st'):=by
 induction a generalizing st with
 | nil=>rfl
 | cons c r ih=>
  simp only[List.cons_append,runL]
  cases take st c with
  | none=>rfl
  | some st'=>exact ih st'
theorem get_at' (pre t:List UInt8)(j:Nat):((⟨(pre++t).toArray⟩:ByteArray).get! (pre.length+j))=t.getD j 0:=by
 show ((pre++t).toArray)[pre.length+j]! = _
 rw[List.getElem!_toArray,List.getElem!_eq_getElem?_getD,List.getElem?_append_right (by omega),Nat.add_sub_cancel_left,List.getD_eq_getElem?_getD]
 rfl
theorem u8 (n:Nat)(h:n < 256):(n.toUInt8).toNat=n:=by
 simp[Nat.toUInt8,Nat.mod_eq_of_lt h]
theorem decodeN_one (n b0 b1 b2 b3:Nat)(h:b0 < 128):decodeN n b0 b1 b2 b3=(b0,1):=by unfold decodeN;rw[if_pos h]
theorem decodeN_two (n c b2 b3:Nat)(hn:2≤n)(h0:128≤c)(h1:c≤2047):decodeN n (192+c / 64) (128+c % 64) b2 b3=(c,2):=by
 unfold decodeN
 rw[if_neg (by omega),if_pos (by omega),if_pos (by omega)]
 congr 1
 omega
theorem decodeN_three (n c b3:Nat)(hn:3≤n)(h:(2048≤c∧c < 55296)∨(57343 < c∧c≤65535)):decodeN n (224+c / 4096) (128+c / 64 % 64) (128+c % 64) b3=(c,3):=by
 unfold decodeN
 rw[if_neg (by omega),if_neg (by omega),if_pos (by omega),if_pos (by omega)]
 congr 1
 omega
theorem decodeN_four (n c:Nat)(hn:4≤n)(h0:65536≤c)(h1:c≤1114111):decodeN n (240+c / 262144) (128+c / 4096 % 64) (128+c / 64 % 64) (128+c % 64)=(c,4):=by
 unfold decodeN
 rw[if_neg (by omega),if_neg (by omega),if_neg (by omega),if_pos (by omega),if_pos (by omega)]
 congr 1
 omega
theorem decode_encode (pre rest:List UInt8)(c:Int)(hv:Valid c):Utf8.decode ⟨(pre++(encodeRune c++rest)).toArray⟩ pre.length=(c.toNat,(encodeRune c).length):=by
 have hsz:(⟨(pre++(encodeRune c++rest)).toArray⟩:ByteArray).size - pre.length=(encodeRune c).length+rest.length:=by
  simp[ByteArray.size]
 have g0:=get_at' pre (encodeRune c++rest) 0
 rw[Nat.add_zero] at g0
 rw[decode_at,hsz,g0,get_at',get_at',get_at']
 obtain⟨n,rfl⟩:∃n:Nat,c=n:=⟨c.toNat,by rcases hv with h | h<;>omega⟩
 unfold Valid at hv
 by_cases c1:n≤127
 ·rw[show encodeRune (n:Int)=[n.toUInt8] by unfold encodeRune;rw[encodeRuneZ_one (by omega) (by omega)];simp]
  simp only[List.cons_append,List.nil_append,List.getD_cons_zero]
  rw[u8 n (by omega),decodeN_one _ _ _ _ _ (by omega)]
  simp
 by_cases c2:n≤2047
 ·rw[show encodeRune (n:Int)=[(192+n / 64).toUInt8,(128+n % 64).toUInt8] by
   unfold encodeRune;rw[encodeRuneZ_two (by omega) (by omega)]
   simp only[List.map_cons,List.map_nil]
   rw[show ((192+(n:Int) / 64)).toNat=192+n / 64 by omega,show ((128+(n:Int) % 64)).toNat=128+n % 64 by omega]]
  simp only[List.cons_append,List.nil_append,List.getD_cons_zero,List.getD_cons_succ]
  rw[u8 _ (by omega),u8 _ (by omega),decodeN_two _ _ _ _ (by simp) (by omega) c2]
  simp
 by_cases c3:n≤65535
 ·rw[show encodeRune (n:Int)=[(224+n / 4096).toUInt8,(128+n / 64 % 64).toUInt8,(128+n % 64).toUInt8] by
   unfold encodeRune;rw[encodeRuneZ_three (by omega)]
   simp only[List.map_cons,List.map_nil]
   rw[show ((224+(n:Int) / 4096)).toNat=224+n / 4096 by omega,show ((128+(n:Int) / 64 % 64)).toNat=128+n / 64 % 64 by omega,show ((128+(n:Int) % 64)).toNat=128+n % 64 by omega]]
  simp only[List.cons_append,List.nil_append,List.getD_cons_zero,List.getD_cons_succ]
  rw[u8 _ (by omega),u8 _ (by omega),u8 _ (by omega),decodeN_three _ _ _ (by simp) (by omega)]
  simp
 ·rw[show encodeRune (n:Int)=[(240+n / 262144).toUInt8,(128+n / 4096 % 64).toUInt8,(128+n / 64 % 64).toUInt8,(128+n % 64).toUInt8] by
   unfold encodeRune;rw[encodeRuneZ_four (by omega) (by omega)]
   simp only[List.map_cons,List.map_nil]
   rw[show ((240+(n:Int) / 262144)).toNat=240+n / 262144 by omega,show ((128+(n:Int) / 4096 % 64)).toNat=128+n / 4096 % 64 by omega,show ((128+(n:Int) / 64 % 64)).toNat=128+n / 64 % 64 by omega,show ((128+(n:Int) % 64)).toNat=128+n % 64 by omega]]
  simp only[List.cons_append,List.nil_append,List.getD_cons_zero,List.getD_cons_succ]
  rw[u8 _ (by omega),u8 _ (by omega),u8 _ (by omega),u8 _ (by omega),decodeN_four _ _ (by simp) (by omega) (by omega)]
  simp
theorem runFrom_encode (rs:List Int)(hv:∀c∈rs,Valid c)(pre:List UInt8)(fuel:Nat)(st:St)(hf:(encodeAll rs).length≤fuel) :
  runFrom ⟨(pre++encodeAll rs).toArray⟩ fuel pre.length st=runL rs st:=by
 induction rs generalizing pre fuel st with
 | nil=>
  have h0:¬ pre.length < (⟨(pre++encodeAll []).toArray⟩:ByteArray).size:=by simp[encodeAll,ByteArray.size]
  cases fuel with
  | zero=>rfl
  | succ f=>simp only[runFrom];rw[if_neg h0];rfl
 | cons c r ih=>
  have hc:=hv c (List.mem_cons_self)
  have hl:=encodeRune_length c
  have ee:encodeAll (c::r)=encodeRune c++encodeAll r:=rfl
  rw[ee,List.length_append] at hf
  obtain⟨f,rfl⟩:∃f,fuel=f+1:=⟨fuel - 1,by omega⟩
  have hlt:pre.length < (⟨(pre++encodeAll (c::r)).toArray⟩:ByteArray).size:=by
   rw[ee];simp[ByteArray.size];omega
  simp only[runFrom]
  rw[if_pos hlt,ee,decode_encode pre (encodeAll r) c hc]
  have hcn:((c.toNat:Nat):Int)=c:=by rcases hc with h | h<;>omega
  simp only[hcn,runL]
  cases take st c with
  | none=>rfl
  | some st'=>
   have:=ih (fun x hx=>hv x (List.mem_cons_of_mem _ hx)) (pre++encodeRune c) f st' (by omega)
   simpa using this
theorem parse_encode (rs:List Int)(hv:∀c∈rs,Valid c):parse ⟨(encodeAll rs).toArray⟩=(match runL rs St.init with | none=>none | some st=>if complete st then some (st.l,st.win) else none):=by
 unfold parse
 have:=runFrom_encode rs hv [] (⟨(encodeAll rs).toArray⟩:ByteArray).size St.init (by simp[ByteArray.size])
 simp only[List.nil_append,List.length_nil] at this
 rw[this]
 cases runL rs St.init<;>rfl
def digitsZ (u:Nat):List Int:=(decDigits u).map fun b=>(b.toNat:Int)
def plusR (b:Bool):List Int:=if b then [43] else []
def stepR (n:Nat)(x:Int × Bool):List Int:=x.1::(plusR x.2++List.replicate (n+1) 32)
def canonR (n:Nat)(l:List (Int × Bool))(win:Int):List Int:=l.flatMap (stepR n)++(47::(List.replicate (n+1) 32++digitsZ win.toNat))
theorem letter_not {c:Int}(h:isLetterU c=true):c≠32∧c≠43∧c≠47:=by
 refine⟨?_,?_,?_⟩<;>(rintro rfl;revert h;decide)
theorem run_spaces (m:Nat)(st:St)(h:st.pl=0∨st.pl=1∨st.pl=2):runL (List.replicate (m+1) 32) st=some { st with pl:=0 }:=by
 induction m generalizing st with
 | zero=>simp[runL,take,takeSteps,h]
 | succ m ih=>
  rw[List.replicate_succ]
  simp only[runL]
  rw[show take st 32=some { st with pl:=0 } by simp[take,takeSteps,h]]
  exact ih _ (Or.inl rfl)
theorem run_spaces3 (m:Nat)(st:St)(h:st.pl=3):runL (List.replicate m 32) st=some st:=by
 induction m with
 | zero=>rfl
 | succ m ih=>
  rw[List.replicate_succ]
  simp only[runL]
  rw[show take st 32=some st by simp[take,takeWindow,h]]
  exact ih
theorem run_spaces5 (m:Nat)(st:St)(h:st.pl=5):runL (List.replicate m 32) st=some st:=by
 induction m with
 | zero=>rfl
 | succ m ih=>
  rw[List.replicate_succ]
  simp only[runL]
  rw[show take st 32=some st by simp[take,takeWindow,h]]
  exact ih
theorem run_spaces4 (m:Nat)(st:St)(h:st.pl=4):∃st',runL (List.replicate m 32) st=some st'∧complete st'=true∧st'.l=st.l∧st'.win=st.win:=by
 cases m with
 | zero=>exact⟨st,rfl,by simp[complete,h],rfl,rfl⟩
 | succ m=>
  rw[List.replicate_succ]
  simp only[runL]
  rw[show take st 32=some { st with pl:=5 } by simp[take,takeWindow,h]]
  exact⟨_,run_spaces5 m _ rfl,by simp[complete],rfl,rfl⟩
theorem plusLast_snoc (l:List (Int × Bool))(x:Int × Bool):plusLast (l++[x])=l++[(x.1,true)]:=by
 induction l with
 | nil=>rfl
 | cons y r ih=>
  cases r with
  | nil=>rfl
  | cons z r=>simpa [plusLast] using ih
theorem run_step (n:Nat)(x:Int × Bool)(hx:isLetterU x.1=true)(l:List (Int × Bool))(win:Int)(h4:l.length < 4):runL (stepR n x) { pl:=0,l:=l,win:=win }=some { pl:=0,l:=l++[x],win:=win }:=by
 obtain⟨n1,n2,n3⟩:=letter_not hx
 unfold stepR
 simp only[runL]
 rw[show take { pl:=0,l:=l,win:=win } x.1=some { pl:=1,l:=l++[(x.1,false)],win:=win } by
  simp[take,takeSteps,addStep,n1,n2,n3,hx,show l.length≠4 by omega]]
 simp only[]
 obtain⟨c,b⟩:=x
 cases b with
 | false=>exact run_spaces n _ (by simp)
 | true=>
  show runL (43::List.replicate (n+1) 32) _=_
  simp only[runL]
  rw[show take { pl:=1,l:=l++[(c,false)],win:=win } 43=some { pl:=2,l:=l++[(c,true)],win:=win } by
   simp[take,takeSteps,addPlus,plusLast_snoc]]
  exact run_spaces n _ (by simp)
theorem run_steps (n:Nat)(l l0:List (Int × Bool))(win:Int)(hl:∀x∈l,isLetterU x.1=true)(h4:l0.length+l.length≤4):runL (l.flatMap (stepR n)) { pl:=0,l:=l0,win:=win }=some { pl:=0,l:=l0++l,win:=win }:=by
 induction l generalizing l0 with
 | nil=>simp[runL]
 | cons x r ih=>
  rw[List.flatMap_cons,runL_append,run_step n x (hl x List.mem_cons_self) l0 win (by simp at h4;omega)]
  simp only[]
  rw[ih (l0++[x]) (fun y hy=>hl y (List.mem_cons_of_mem _ hy)) (by simp at h4 ⊢;omega)]
  simp
theorem digitsZ_small {u:Nat}(h:u < 10):digitsZ u=[48+(u:Int)]:=by
 unfold digitsZ
 rw[decDigits,dif_pos h]
 simp
 omega
theorem digitsZ_more {u:Nat}(h:10≤u):digitsZ u=digitsZ (u / 10)++[48+((u % 10:Nat):Int)]:=by
 unfold digitsZ
 rw[decDigits,dif_neg (by omega)]
 simp
 omega
theorem run_digits (l:List (Int × Bool))(u:Nat)(h9:u≤9999):runL (digitsZ u) { pl:=3,l:=l,win:=0 }=some { pl:=4,l:=l,win:=u }:=by
 induction u using Nat.strongRecOn with
 | ind u ih=>
  by_cases h:u < 10
  ·rw[digitsZ_small h]
   simp only[runL]
   rw[show take { pl:=3,l:=l,win:=0 } (48+(u:Int))=some { pl:=4,l:=l,win:=u } by
    simp only[take,takeWindow,addDigit]
    rw[if_neg (by omega),if_neg (by omega),if_pos (by omega),if_neg (by omega),if_neg (by omega),if_pos (by omega)]
    simp
    omega]
  ·rw[digitsZ_more (by omega),runL_append,ih (u / 10) (by omega) (by omega)]
   simp only[runL]
   rw[show take { pl:=4,l:=l,win:=((u / 10:Nat):Int) } (48+((u % 10:Nat):Int))=some { pl:=4,l:=l,win:=u } by
    simp only[take,takeWindow,addDigit]
    rw[if_neg (by omega),if_neg (by omega),if_pos (by omega),if_neg (by omega),if_neg (by omega),if_pos (by omega)]
    simp
    omega]
theorem run_canon (a n:Nat)(l:List (Int × Bool))(win:Int)(hf:Fine l win) :
  ∃st,runL (List.replicate a 32++(canonR n l win++List.replicate a 32)) St.init=some st∧complete st=true∧st.l=l∧st.win=win:=by
 have h0:runL (List.replicate a 32) St.init=some { pl:=0,l:=[],win:=0 }:=by
  cases a with
  | zero=>rfl
  | succ a=>rw[run_spaces a _ (Or.inl rfl)];rfl
 have h1:runL (canonR n l win) { pl:=0,l:=[],win:=0 }=some { pl:=4,l:=l,win:=win }:=by
  unfold canonR
  rw[runL_append,run_steps n l [] 0 (fun x hx=>(hf.ltr x hx).1) (by simpa using hf.l4)]
  simp only[runL,List.nil_append]
  rw[show take { pl:=0,l:=l,win:=0 } 47=some { pl:=3,l:=l,win:=0 } by simp[take,takeSteps,hf.ne]]
  simp only[]
  rw[runL_append,run_spaces3 _ _ rfl]
  simp only[]
  have hw:=hf.w9
  have hw0:=hf.w0
  rw[run_digits l win.toNat (by omega),show ((win.toNat:Nat):Int)=win by omega]
 obtain⟨st,e1,e2,e3,e4⟩:=run_spaces4 a { pl:=4,l:=l,win:=win } rfl
 refine⟨st,?_,e2,e3,e4⟩
 rw[runL_append,h0]
 simp only[]
 rw[runL_append,h1]
 simp only[]
 exact e1
theorem encode_ascii {c:Int}(h0:0≤c)(h1:c≤127):encodeRune c=[c.toNat.toUInt8]:=by
 unfold encodeRune
 rw[encodeRuneZ_one h0 h1]
 rfl
theorem decDigits_range (u:Nat):∀b∈decDigits u,48≤b.toNat∧b.toNat≤57:=by
 induction u using Nat.strongRecOn with
 | ind u ih=>
  intro b hb
  rw[decDigits] at hb
  split at hb
  ·rw[List.mem_singleton.1 hb]
   simp
   omega
  ·rcases List.mem_append.1 hb with h | h
   ·exact ih (u / 10) (by omega) b h
   ·rw[List.mem_singleton.1 h]
    simp
    omega
theorem encodeAll_append (a b:List Int):encodeAll (a++b)=encodeAll a++encodeAll b:=by simp[encodeAll]
theorem encodeAll_cons (c:Int)(b:List Int):encodeAll (c::b)=encodeRune c++encodeAll b:=rfl
theorem encodeAll_spaces (n:Nat):encodeAll (List.replicate n 32)=List.replicate n 32:=by
 induction n with
 | zero=>rfl
 | succ n ih=>rw[List.replicate_succ,encodeAll_cons,ih,encode_ascii (by omega) (by omega)];rfl
theorem encodeAll_bytes (l:List UInt8)(h:∀b∈l,b.toNat≤127):encodeAll (l.map fun b=>(b.toNat:Int))=l:=by
 induction l with
 | nil=>rfl
 | cons b r ih=>
  have hb:=h b List.mem_cons_self
  rw[List.map_cons,encodeAll_cons,ih (fun x hx=>h x (List.mem_cons_of_mem _ hx)),encode_ascii (by omega) (by omega)]
  simp
theorem encode_canon (l:List (Int × Bool))(win:Int)(hw:0≤win):encodeAll (canonR 0 l win)=text l win:=by
 unfold canonR text
 rw[encodeAll_append,encodeAll_cons,encodeAll_append,itoa_eq win hw]
 congr 1
 ·induction l with
  | nil=>rfl
  | cons x r ih=>
   rw[List.flatMap_cons,encodeAll_append,ih]
   show _=stepText x++stepsText r
   congr 1
   unfold stepR stepText plusR
   rw[encodeAll_cons,encodeAll_append]
   cases x.2<;>rfl
 ·rw[encodeAll_spaces,show digitsZ win.toNat=(decDigits win.toNat).map fun b=>(b.toNat:Int) from rfl,encodeAll_bytes _ (fun b hb=>by have:=decDigits_range _ b hb;omega)]
  rfl
def widen (l:List UInt8):List UInt8:=l.flatMap fun b=>if b=32 then [32,32] else [b]
theorem canon_valid (n:Nat)(l:List (Int × Bool))(win:Int)(hf:Fine l win):∀c∈canonR n l win,Valid c:=by
 intro c hc
 unfold canonR at hc
 rcases List.mem_append.1 hc with h | h
 ·obtain⟨x,hx,h⟩:=List.mem_flatMap.1 h
  unfold stepR plusR at h
  rcases List.mem_cons.1 h with rfl | h
  ·exact (hf.ltr x hx).2
  ·rcases List.mem_append.1 h with h | h
   ·cases hb:x.2<;>rw[hb] at h<;>simp at h
    subst h;exact Or.inl ⟨by decide,by decide⟩
   ·rw[(List.mem_replicate.1 h).2];exact Or.inl ⟨by decide,by decide⟩
 ·rcases List.mem_cons.1 h with rfl | h
  ·exact Or.inl ⟨by decide,by decide⟩
  ·rcases List.mem_append.1 h with h | h
   ·rw[(List.mem_replicate.1 h).2];exact Or.inl ⟨by decide,by decide⟩
   ·unfold digitsZ at h
    obtain⟨b,hb,rfl⟩:=List.mem_map.1 h
    have:=decDigits_range _ b hb
    exact Or.inl ⟨by omega,by omega⟩
theorem parse_text (l:List (Int × Bool))(win:Int)(hf:Fine l win):parse ⟨(text l win).toArray⟩=some (l,win):=by
 rw[← encode_canon l win hf.w0,parse_encode _ (canon_valid 0 l win hf)]
 obtain⟨st,e1,e2,e3,e4⟩:=run_canon 0 0 l win hf
 simp only[List.replicate_zero,List.nil_append,List.append_nil] at e1
 rw[e1]
 simp[e2,e3,e4]
theorem text_length (l:List (Int × Bool))(win:Int)(hf:Fine l win):(text l win).length≤30:=by
 have h1:=stepsText_length l
 have h2:=itoa_length win hf.w0 hf.w9
 have h3:=hf.l4
 unfold text
 simp only[List.length_append,List.length_cons,List.length_nil]
 omega
end Pl
namespace En
def evB (e:Ev):List UInt8:=Fr.num e.off.toNat++(Fr.num e.kind.toNat++Fr.mom e.time)
def offsB (l:List Int):List UInt8:=l.flatMap fun o=>Fr.num o.toNat
def runB (r:Rn):List UInt8:=Fr.num r.step++(Fr.num r.offs.length++(offsB r.offs++Fr.mom r.first))
def evsB (l:List Ev):List UInt8:=l.flatMap evB
def runsB (l:List Rn):List UInt8:=l.flatMap runB
def headB (text:List UInt8)(W Next:Int):List UInt8:=83::(Fr.num text.length++text++Fr.mom W++Fr.num Next.toNat)
def stateB (text:List UInt8)(W Next:Int)(Q:List Ev)(A:List Rn):List UInt8:=headB text W Next++(Fr.num Q.length++evsB (sortEv Q))++(Fr.num A.length++runsB A)
theorem flat_take {α β:Type}(f:α→List β)(l:List α)(k:Nat)(hk:k < l.length):(l.take (k+1)).flatMap f=(l.take k).flatMap f++f l[k]:=by
 rw[List.take_succ_eq_append_getElem hk,List.flatMap_append]
 simp
theorem flat_take_le {α β:Type}(f:α→List β)(l:List α)(k:Nat):((l.take k).flatMap f).length≤(l.flatMap f).length:=by
 have h:l.flatMap f=(l.take k).flatMap f++(l.drop k).flatMap f:=by rw[← List.flatMap_append,List.take_append_drop]
 rw[h,List.length_append]
 omega
end En
end Go.Proofs.YtfldcmdhneegmaaGreatDoor

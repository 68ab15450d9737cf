import Derived.Shelf.Unicode.DecodeSlow
import Derived.Test.YtfldcmdhneegmaaGreatDoorX24
import Derived.Laws.IdiomStrings
set_option maxHeartbeats 4000000
set_option maxRecDepth 1000000
namespace Go.Proofs.YtfldcmdhneegmaaGreatDoor
namespace Pl
open Go.Lib
def sp (l:List UInt8):List UInt8:=l.dropWhile fun b=>b == 32
theorem sp_cons32 (r:List UInt8):sp (32::r)=sp r:=by simp[sp]
theorem sp_cons {b:UInt8}(r:List UInt8)(h:b≠32):sp (b::r)=b::r:=by simp[sp,h]
theorem sp_length (l:List UInt8):(sp l).length≤l.length:=by
 induction l with
 | nil=>simp[sp]
 | cons b r ih=>
  by_cases h:b=32
  ·subst h;rw[sp_cons32];simp;omega
  ·rw[sp_cons r h];exact Nat.le_refl _
theorem sp_head (l:List UInt8):(sp l).head?≠some 32:=by
 induction l with
 | nil=>simp[sp]
 | cons b r ih=>
  by_cases h:b=32
  ·subst h;rw[sp_cons32];exact ih
  ·rw[sp_cons r h];simpa using h
def isDig (b:UInt8):Bool:=decide (48≤b.toNat∧b.toNat≤57)
def digs:Nat→List UInt8→Nat
 | 0,_=>0
 | _+1,[]=>0
 | f+1,b::r=>if isDig b then digs f r+1 else 0
def numOf (l:List UInt8):Int:=l.foldl (fun n b=>10 * n+((b.toNat:Int) - 48)) 0
def winOf (l:List UInt8):Int:=
 let t:=sp l
 let k:=digs 5 t
 if k=0∨4 < k∨(1 < k∧t.head?=some 48)∨sp (t.drop k)≠[] then -1 else numOf (t.take k)
def refLoop:Nat→List UInt8→List (Int × Bool)→Option (List (Int × Bool) × Int)
 | 0,_,_=>none
 | f+1,s,acc=>
  if s=[]∨isLetterU (Utf8.decode ⟨s.toArray⟩ 0).1=false∨acc.length=4 then none else
   let s1:=s.drop (Utf8.decode ⟨s.toArray⟩ 0).2
   let plus:=s1.head? == some 43
   let s2:=if plus then s1.drop 1 else s1
   let acc':=acc++[(((Utf8.decode ⟨s.toArray⟩ 0).1:Int),plus)]
   if (sp s2).head?=some 47 then (if winOf ((sp s2).drop 1) < 0 then none else some (acc',winOf ((sp s2).drop 1)))
   else if s2.head?=some 32 then refLoop f (sp s2) acc' else none
def runB:Nat→List UInt8→St→Option St
 | 0,_,st=>some st
 | f+1,l,st=>if l=[] then some st else match take st (Utf8.decode ⟨l.toArray⟩ 0).1 with
  | none=>none
  | some st'=>runB f (l.drop (Utf8.decode ⟨l.toArray⟩ 0).2) st'
theorem runB_succ (f:Nat)(l:List UInt8)(st:St):runB (f+1) l st=(if l=[] then some st else match take st (Utf8.decode ⟨l.toArray⟩ 0).1 with
  | none=>none
  | some st'=>runB f (l.drop (Utf8.decode ⟨l.toArray⟩ 0).2) st'):=rfl
theorem decode_drop (pre l:List UInt8):Utf8.decode ⟨(pre++l).toArray⟩ pre.length=Utf8.decode ⟨l.toArray⟩ 0:=by
 have g0:=get_at' pre l 0
 rw[Nat.add_zero] at g0
 have k0:=get_at' [] l 0
 have k1:=get_at' [] l 1
 have k2:=get_at' [] l 2
 have k3:=get_at' [] l 3
 simp only[List.nil_append,List.length_nil] at k0 k1 k2 k3
 rw[decode_at,decode_at,g0,get_at',get_at',get_at']
 rw[Nat.zero_add,Nat.zero_add,Nat.zero_add] at *
 rw[k0,k1,k2,k3]
 congr 1
 simp[ByteArray.size]
theorem runFrom_runB (l:List UInt8)(fuel pos:Nat)(st:St)(hp:pos≤l.length):runFrom ⟨l.toArray⟩ fuel pos st=runB fuel (l.drop pos) st:=by
 induction fuel generalizing pos st with
 | zero=>rfl
 | succ f ih=>
  unfold runFrom runB
  by_cases h:pos < l.length
  ·rw[if_pos (by simpa [ByteArray.size] using h),if_neg (by intro e;have:=congrArg List.length e;simp at this;omega)]
   have hd:Utf8.decode ⟨l.toArray⟩ pos=Utf8.decode ⟨(l.drop pos).toArray⟩ 0:=by
    have:=decode_drop (l.take pos) (l.drop pos)
    rw[List.take_append_drop,List.length_take,Nat.min_eq_left hp] at this
    exact this
   rw[hd]
   generalize Utf8.decode ⟨(l.drop pos).toArray⟩ 0=q
   obtain⟨c,n⟩:=q
   simp only[]
   cases take st (c:Int) with
   | none=>rfl
   | some st'=>
    simp only[]
    rw[List.drop_drop]
    by_cases h2:pos+n≤l.length
    ·exact ih _ _ h2
    ·rw[List.drop_eq_nil_of_le (by omega)]
     cases f with
     | zero=>rfl
     | succ f=>
      unfold runFrom runB
      rw[if_neg (by simp[ByteArray.size];omega),if_pos rfl]
  ·rw[if_neg (by simpa [ByteArray.size] using h),if_pos (List.drop_eq_nil_of_le (by omega))]
theorem dec_ascii (b:UInt8)(r:List UInt8)(h:b.toNat < 128):Utf8.decode ⟨(b::r).toArray⟩ 0=(b.toNat,1):=by
 have k0:=get_at' [] (b::r) 0
 simp only[List.nil_append,List.length_nil] at k0
 rw[decode_at,k0]
 exact decodeN_one _ _ _ _ _ h
theorem dec_high (b:UInt8)(r:List UInt8)(h:128≤b.toNat):128≤(Utf8.decode ⟨(b::r).toArray⟩ 0).1∧1≤(Utf8.decode ⟨(b::r).toArray⟩ 0).2:=
 decode_high ⟨(b::r).toArray⟩ 0 (by simp[ByteArray.size]) h
theorem dec_width (b:UInt8)(r:List UInt8):1≤(Utf8.decode ⟨(b::r).toArray⟩ 0).2:=by
 by_cases h:b.toNat < 128
 ·rw[dec_ascii b r h];exact Nat.le_refl _
 ·exact (dec_high b r (by omega)).2
theorem dec_low {b:UInt8}{r:List UInt8}(h:(Utf8.decode ⟨(b::r).toArray⟩ 0).1 < 128):b.toNat < 128∧(Utf8.decode ⟨(b::r).toArray⟩ 0).1=b.toNat∧(Utf8.decode ⟨(b::r).toArray⟩ 0).2=1:=by
 by_cases hb:b.toNat < 128
 ·rw[dec_ascii b r hb];exact⟨hb,rfl,rfl⟩
 ·have:=(dec_high b r (by omega)).1
  omega
theorem runB_fuel (l:List UInt8)(f g:Nat)(st:St)(hf:l.length≤f)(hg:l.length≤g):runB f l st=runB g l st:=by
 induction f generalizing l g st with
 | zero=>
  have h0:l=[]:=List.length_eq_zero_iff.1 (by omega)
  subst h0
  cases g with
  | zero=>rfl
  | succ g=>rfl
 | succ f ih=>
  cases l with
  | nil=>
   cases g with
   | zero=>rfl
   | succ g=>rfl
  | cons b r=>
   obtain⟨g,rfl⟩:∃g',g=g'+1:=⟨g - 1,by simp at hg;omega⟩
   have hw:=dec_width b r
   unfold runB
   rw[if_neg (by simp),if_neg (by simp)]
   cases take st (Utf8.decode ⟨(b::r).toArray⟩ 0).1 with
   | none=>rfl
   | some st'=>
    simp only[]
    exact ih _ _ _ (by simp at hf ⊢;omega) (by simp at hg ⊢;omega)
def run (l:List UInt8)(st:St):Option St:=runB l.length l st
theorem run_nil (st:St):run [] st=some st:=rfl
theorem run_cons (b:UInt8)(r:List UInt8)(st:St):run (b::r) st=(match take st (Utf8.decode ⟨(b::r).toArray⟩ 0).1 with
  | none=>none
  | some st'=>run ((b::r).drop (Utf8.decode ⟨(b::r).toArray⟩ 0).2) st'):=by
 unfold run
 have hw:=dec_width b r
 rw[List.length_cons]
 rw[runB_succ,if_neg (by simp)]
 cases take st (Utf8.decode ⟨(b::r).toArray⟩ 0).1 with
 | none=>rfl
 | some st'=>
  simp only[]
  refine runB_fuel _ _ _ _ ?_ (Nat.le_refl _)
  rw[List.length_drop,List.length_cons]
  omega
theorem run_ascii (b:UInt8)(r:List UInt8)(st:St)(h:b.toNat < 128):run (b::r) st=(match take st b.toNat with | none=>none | some st'=>run r st'):=by
 rw[run_cons,dec_ascii b r h]
 rfl
theorem parse_run (l:List UInt8):parse ⟨l.toArray⟩=(match run l St.init with | none=>none | some st=>if complete st then some (st.l,st.win) else none):=by
 unfold parse
 rw[runFrom_runB l _ 0 _ (Nat.zero_le _)]
 rw[show (⟨l.toArray⟩:ByteArray).size=l.length by simp[ByteArray.size],List.drop_zero]
 show _=(match runB l.length l St.init with | none=>none | some st=>if complete st then some (st.l,st.win) else none)
 cases runB l.length l St.init<;>rfl
def fin:Option St→Option (List (Int × Bool) × Int)
 | none=>none
 | some st=>if complete st then some (st.l,st.win) else none
theorem parse_fin (l:List UInt8):parse ⟨l.toArray⟩=fin (run l St.init):=by
 rw[parse_run]
 cases run l St.init<;>rfl
theorem run_sp0 (l:List UInt8)(acc:List (Int × Bool))(w:Int):run l { pl:=0,l:=acc,win:=w }=run (sp l) { pl:=0,l:=acc,win:=w }:=by
 induction l with
 | nil=>rfl
 | cons b r ih=>
  by_cases h:b=32
  ·subst h
   rw[sp_cons32,← ih,run_ascii 32 r _ (by decide)]
   rfl
  ·rw[sp_cons r h]
theorem run_sp3 (l:List UInt8)(acc:List (Int × Bool))(w:Int):run l { pl:=3,l:=acc,win:=w }=run (sp l) { pl:=3,l:=acc,win:=w }:=by
 induction l with
 | nil=>rfl
 | cons b r ih=>
  by_cases h:b=32
  ·subst h
   rw[sp_cons32,← ih,run_ascii 32 r _ (by decide)]
   rfl
  ·rw[sp_cons r h]
theorem dig_take {b:UInt8}(h:isDig b=true):b.toNat < 128∧(b.toNat:Int)≠32∧48≤(b.toNat:Int)∧(b.toNat:Int)≤57:=by
 have:=of_decide_eq_true h
 omega
theorem fin_five (l:List UInt8)(acc:List (Int × Bool))(w:Int):fin (run l { pl:=5,l:=acc,win:=w })=if sp l=[] then some (acc,w) else none:=by
 induction l with
 | nil=>simp[run_nil,fin,complete,sp]
 | cons b r ih=>
  by_cases h:b=32
  ·subst h
   rw[sp_cons32,← ih,run_ascii 32 r _ (by decide)]
   rfl
  ·rw[sp_cons r h,if_neg (by simp),run_cons]
   have hn:take { pl:=5,l:=acc,win:=w } (Utf8.decode ⟨(b::r).toArray⟩ 0).1=none:=by
    simp only[take,takeWindow,addDigit]
    rw[if_neg (by omega)]
    by_cases h32:((Utf8.decode ⟨(b::r).toArray⟩ 0).1:Int)=32
    ·obtain⟨h1,h2,_⟩:=dec_low (b:=b) (r:=r) (by omega)
     exact absurd (UInt8.toNat_inj.1 (show b.toNat=(32:UInt8).toNat by have:(32:UInt8).toNat=32:=rfl;omega)) h
    ·rw[if_neg h32]
     simp
   rw[hn]
   rfl
theorem fin_four_stop (l:List UInt8)(acc:List (Int × Bool))(w:Int)(h:∀b r,l=b::r→isDig b=false):fin (run l { pl:=4,l:=acc,win:=w })=if sp l=[] then some (acc,w) else none:=by
 cases l with
 | nil=>simp[run_nil,fin,complete,sp]
 | cons b r=>
  have hd:=h b r rfl
  by_cases h32:b=32
  ·subst h32
   rw[sp_cons32,← fin_five,run_ascii 32 r _ (by decide)]
   rfl
  ·rw[sp_cons r h32,if_neg (by simp),run_cons]
   have hn:take { pl:=4,l:=acc,win:=w } (Utf8.decode ⟨(b::r).toArray⟩ 0).1=none:=by
    simp only[take,takeWindow]
    rw[if_neg (by omega)]
    by_cases hlow:(Utf8.decode ⟨(b::r).toArray⟩ 0).1 < 128
    ·obtain⟨h1,h2,_⟩:=dec_low hlow
     rw[h2,if_neg (by
      intro e
      exact h32 (UInt8.toNat_inj.1 (show b.toNat=(32:UInt8).toNat by have:(32:UInt8).toNat=32:=rfl;omega))),if_neg (by
      intro e
      have:isDig b=true:=by unfold isDig;exact decide_eq_true (by omega)
      rw[hd] at this;cases this)]
    ·rw[if_neg (by omega),if_neg (by omega)]
   rw[hn]
   rfl
theorem take_dig4 (acc:List (Int × Bool))(w:Int)(b:UInt8)(hd:isDig b=true)(hw:0 < w):take { pl:=4,l:=acc,win:=w } b.toNat=if w * 10+((b.toNat:Int) - 48)≤9999 then some { pl:=4,l:=acc,win:=w * 10+((b.toNat:Int) - 48) } else none:=by
 obtain⟨h1,h2,h3,h4⟩:=dig_take hd
 simp only[take,takeWindow,addDigit]
 rw[if_neg (by omega),if_neg h2,if_pos ⟨h3,h4⟩,if_neg (by omega),if_neg (by omega)]
theorem take_dig3 (acc:List (Int × Bool))(b:UInt8)(hd:isDig b=true):take { pl:=3,l:=acc,win:=0 } b.toNat=some { pl:=4,l:=acc,win:=(b.toNat:Int) - 48 }:=by
 obtain⟨h1,h2,h3,h4⟩:=dig_take hd
 simp only[take,takeWindow,addDigit]
 rw[if_neg (by omega),if_neg h2,if_pos ⟨h3,h4⟩,if_neg (by omega),if_neg (by omega),if_pos (by omega)]
 simp
theorem take_dig0 (acc:List (Int × Bool))(b:UInt8)(hd:isDig b=true):take { pl:=4,l:=acc,win:=0 } b.toNat=none:=by
 obtain⟨h1,h2,h3,h4⟩:=dig_take hd
 simp only[take,takeWindow,addDigit]
 rw[if_neg (by omega),if_neg h2,if_pos ⟨h3,h4⟩,if_neg (by omega),if_pos (by simp)]
theorem fin_four (m:Nat)(l:List UInt8)(acc:List (Int × Bool))(w:Int)(hw:0 < w)(lo hi:Int)(hlo:lo≤w)(hhi:w < hi)(hm:(m=0∧lo=1000∧hi=10000)∨(m=1∧lo=100∧hi=1000)∨(m=2∧lo=10∧hi=100)∨(m=3∧lo=1∧hi=10)) :
  fin (run l { pl:=4,l:=acc,win:=w })=if digs (m+1) l≤m∧sp (l.drop (digs (m+1) l))=[] then some (acc,(l.take (digs (m+1) l)).foldl (fun n b=>10 * n+((b.toNat:Int) - 48)) w) else none:=by
 induction m generalizing l w lo hi with
 | zero=>
  cases l with
  | nil=>simp[run_nil,fin,complete,sp,digs]
  | cons b r=>
   by_cases hd:isDig b=true
   ·obtain⟨h1,h2,h3,h4⟩:=dig_take hd
    rw[run_ascii b r _ h1,take_dig4 acc w b hd hw,if_neg (by omega),if_neg (by simp[digs,hd])]
    rfl
   ·have hd':isDig b=false:=by simpa using hd
    rw[fin_four_stop (b::r) acc w (by rintro b' r' e;cases e;exact hd')]
    simp[digs,hd']
 | succ m ih=>
  cases l with
  | nil=>simp[run_nil,fin,complete,sp,digs]
  | cons b r=>
   by_cases hd:isDig b=true
   ·obtain⟨h1,h2,h3,h4⟩:=dig_take hd
    rw[run_ascii b r _ h1,take_dig4 acc w b hd hw,if_pos (by omega)]
    simp only[]
    rw[ih r (w * 10+((b.toNat:Int) - 48)) (by omega) (lo * 10) (hi * 10) (by omega) (by omega) (by omega)]
    have e1:digs (m+1+1) (b::r)=digs (m+1) r+1:=by simp[digs,hd]
    rw[e1]
    simp only[List.drop_succ_cons,List.take_succ_cons,List.foldl_cons,Nat.add_le_add_iff_right]
    rw[show 10 * w+((b.toNat:Int) - 48)=w * 10+((b.toNat:Int) - 48) by omega]
   ·have hd':isDig b=false:=by simpa using hd
    rw[fin_four_stop (b::r) acc w (by rintro b' r' e;cases e;exact hd')]
    simp[digs,hd']
theorem fin_three (t:List UInt8)(ht:t.head?≠some 32)(acc:List (Int × Bool)) :
  fin (run t { pl:=3,l:=acc,win:=0 })=if digs 5 t=0∨4 < digs 5 t∨(1 < digs 5 t∧t.head?=some 48)∨sp (t.drop (digs 5 t))≠[] then none else some (acc,numOf (t.take (digs 5 t))):=by
 cases t with
 | nil=>simp[run_nil,fin,complete,digs]
 | cons b r=>
  have h32:b≠32:=by simpa using ht
  by_cases hd:isDig b=true
  ·obtain⟨h1,h2,h3,h4⟩:=dig_take hd
   have e1:digs 5 (b::r)=digs 4 r+1:=by simp[digs,hd]
   rw[run_ascii b r _ h1,take_dig3 acc b hd]
   simp only[]
   by_cases h0:b=48
   ·subst h0
    rw[e1]
    cases r with
    | nil=>simp[run_nil,fin,complete,digs,sp,numOf]
    | cons c r'=>
     by_cases hc:isDig c=true
     ·obtain⟨k1,k2,k3,k4⟩:=dig_take hc
      rw[run_ascii c r' _ k1,show (((48:UInt8).toNat:Int) - 48)=0 from rfl,take_dig0 acc c hc,if_pos (by simp[digs,hc])]
      rfl
     ·have hc':isDig c=false:=by simpa using hc
      rw[show (((48:UInt8).toNat:Int) - 48)=0 from rfl,fin_four_stop (c::r') acc 0 (by rintro b' r'' e;cases e;exact hc')]
      have e2:digs 4 (c::r')=0:=by simp[digs,hc']
      rw[e2]
      simp only[List.drop_succ_cons,List.drop_zero,List.take_succ_cons,List.take_zero]
      by_cases hs:sp (c::r')=[]
      ·rw[if_pos hs,if_neg (by simp[hs])];rfl
      ·rw[if_neg hs,if_pos (by simp[hs])]
   ·have hb:(b.toNat:Int)≠48:=by
     intro e
     exact h0 (UInt8.toNat_inj.1 (show b.toNat=(48:UInt8).toNat by have:(48:UInt8).toNat=48:=rfl;omega))
    rw[fin_four 3 r acc ((b.toNat:Int) - 48) (by omega) 1 10 (by omega) (by omega) (by omega),e1]
    simp only[List.drop_succ_cons,List.take_succ_cons]
    by_cases hc:digs 4 r≤3∧sp (r.drop (digs 4 r))=[]
    ·rw[if_pos hc,if_neg (by simp[hc.2,h0];omega)]
     simp[numOf]
    ·rw[if_neg hc,if_pos (by
      by_cases h3:digs 4 r≤3
      ·right;right;right
       intro e;exact hc ⟨h3,e⟩
      ·right;left;omega)]
  ·have hd':isDig b=false:=by simpa using hd
   rw[if_pos (by left;simp[digs,hd']),run_cons]
   have hn:take { pl:=3,l:=acc,win:=0 } (Utf8.decode ⟨(b::r).toArray⟩ 0).1=none:=by
    simp only[take,takeWindow]
    rw[if_neg (by omega)]
    by_cases hlow:(Utf8.decode ⟨(b::r).toArray⟩ 0).1 < 128
    ·obtain⟨h1,h2,_⟩:=dec_low hlow
     rw[h2,if_neg (by
      intro e
      exact h32 (UInt8.toNat_inj.1 (show b.toNat=(32:UInt8).toNat by have:(32:UInt8).toNat=32:=rfl;omega))),if_neg (by
      intro e
      have:isDig b=true:=by unfold isDig;exact decide_eq_true (by omega)
      rw[hd'] at this;cases this)]
    ·rw[if_neg (by omega),if_neg (by omega)]
   rw[hn]
   rfl
theorem numOf_nonneg (l:List UInt8)(h:∀b∈l,isDig b=true):0≤numOf l:=by
 have:∀(l:List UInt8) (n:Int),0≤n→(∀b∈l,isDig b=true)→0≤l.foldl (fun n b=>10 * n+((b.toNat:Int) - 48)) n:=by
  intro l
  induction l with
  | nil=>intro n h _;exact h
  | cons b r ih=>
   intro n hn hl
   have hb:=dig_take (hl b List.mem_cons_self)
   exact ih _ (by show 0≤10 * n+((b.toNat:Int) - 48);omega) (fun x hx=>hl x (List.mem_cons_of_mem _ hx))
 exact this l 0 (Int.le_refl _) h
theorem digs_dig (f:Nat)(l:List UInt8):∀b∈l.take (digs f l),isDig b=true:=by
 induction f generalizing l with
 | zero=>intro b hb;simp[digs] at hb
 | succ f ih=>
  cases l with
  | nil=>intro b hb;simp[digs] at hb
  | cons c r=>
   by_cases hc:isDig c=true
   ·intro b hb
    simp only[digs,hc,if_true,List.take_succ_cons] at hb
    rcases List.mem_cons.1 hb with rfl | h
    ·exact hc
    ·exact ih r b h
   ·intro b hb
    simp[digs,hc] at hb
theorem fin_win (l:List UInt8)(acc:List (Int × Bool)):fin (run l { pl:=3,l:=acc,win:=0 })=if winOf l < 0 then none else some (acc,winOf l):=by
 rw[run_sp3,fin_three (sp l) (sp_head l) acc]
 unfold winOf
 have h0:=numOf_nonneg _ (digs_dig 5 (sp l))
 simp only[]
 split
 ·rw[if_pos (by decide)]
 ·rw[if_neg (by omega)]
end Pl
namespace Pl
open Go.Lib
theorem byte_of {b:UInt8}{r:List UInt8}{k:Nat}(hk:k < 128)(h:((Utf8.decode ⟨(b::r).toArray⟩ 0).1:Int)=k):b.toNat=k:=by
 obtain⟨_,h2,_⟩:=dec_low (b:=b) (r:=r) (by omega)
 omega
theorem fin_mid (s:List UInt8)(pl:Int)(hp:pl=1∨pl=2)(acc:List (Int × Bool))(ha:acc≠[])(h43:pl=1→s.head?≠some 43) :
  fin (run s { pl:=pl,l:=acc,win:=0 })=if (sp s).head?=some 47 then (if winOf ((sp s).drop 1) < 0 then none else some (acc,winOf ((sp s).drop 1))) else if s.head?=some 32 then fin (run (sp s) { pl:=0,l:=acc,win:=0 }) else none:=by
 have hpl:pl=0∨pl=1∨pl=2:=Or.inr hp
 have h47:∀(q:Int),(q=0∨q=1∨q=2)→take { pl:=q,l:=acc,win:=0 } 47=some { pl:=3,l:=acc,win:=0 }:=by
  intro q hq
  simp[take,takeSteps,hq,ha]
 cases s with
 | nil=>
  rcases hp with rfl | rfl<;>simp[run_nil,fin,complete,sp]
 | cons b r=>
  by_cases h32:b=32
  ·subst h32
   rw[sp_cons32,run_ascii 32 r _ (by decide),show take { pl:=pl,l:=acc,win:=0 } ((32:UInt8).toNat:Int)=some { pl:=0,l:=acc,win:=0 } by simp[take,takeSteps,hpl]]
   simp only[]
   rw[run_sp0]
   by_cases hs:(sp r).head?=some 47
   ·rw[if_pos hs]
    cases hq:sp r with
    | nil=>rw[hq] at hs;cases hs
    | cons c r3=>
     rw[hq] at hs
     obtain rfl:c=47:=by simpa using hs
     rw[run_ascii 47 r3 _ (by decide),show take { pl:=0,l:=acc,win:=0 } ((47:UInt8).toNat:Int)=_ from h47 0 (Or.inl rfl)]
     exact fin_win r3 acc
   ·rw[if_neg hs,if_pos (by simp)]
  ·rw[sp_cons r h32]
   by_cases hb:b=47
   ·subst hb
    rw[if_pos (by simp),run_ascii 47 r _ (by decide),show take { pl:=pl,l:=acc,win:=0 } ((47:UInt8).toNat:Int)=_ from h47 pl hpl]
    exact fin_win r acc
   ·rw[if_neg (by simpa using hb),if_neg (by simpa using h32),run_cons]
    have hn:take { pl:=pl,l:=acc,win:=0 } (Utf8.decode ⟨(b::r).toArray⟩ 0).1=none:=by
     simp only[take,takeSteps,addPlus,addStep]
     rw[if_pos hpl,if_neg (by
      intro e;have:=byte_of (k:=32) (by omega) e
      exact h32 (UInt8.toNat_inj.1 (show b.toNat=(32:UInt8).toNat by rw[this];rfl)))]
     split
     ·rename_i e
      have hb43:=byte_of (k:=43) (by omega) e
      have:b=43:=UInt8.toNat_inj.1 (show b.toNat=(43:UInt8).toNat by rw[hb43];rfl)
      rw[if_neg (by intro e1;exact h43 e1 (by simpa using this))]
     ·rw[if_neg (by
       intro e;have:=byte_of (k:=47) (by omega) e
       exact hb (UInt8.toNat_inj.1 (show b.toNat=(47:UInt8).toNat by rw[this];rfl)))]
      split
      ·rw[if_neg (by rcases hp with rfl | rfl<;>simp)]
      ·rfl
    rw[hn]
    rfl
theorem ref_run (f:Nat)(s:List UInt8)(acc:List (Int × Bool))(hf:s.length < f)(h32:s.head?≠some 32)(h47:s.head?≠some 47∨acc=[]) :
  fin (run s { pl:=0,l:=acc,win:=0 })=refLoop f s acc:=by
 induction f generalizing s acc with
 | zero=>omega
 | succ f ih=>
  unfold refLoop
  cases s with
  | nil=>simp[run_nil,fin,complete]
  | cons b r=>
   have hw:=dec_width b r
   rw[run_cons]
   by_cases hlet:isLetterU (Utf8.decode ⟨(b::r).toArray⟩ 0).1=true
   ·obtain⟨n1,n2,n3⟩:=letter_not hlet
    by_cases h4:acc.length=4
    ·rw[if_pos (by right;right;exact h4),show take { pl:=0,l:=acc,win:=0 } (Utf8.decode ⟨(b::r).toArray⟩ 0).1=none by
      simp[take,takeSteps,addStep,n1,n2,n3,hlet,h4]]
     rfl
    ·rw[if_neg (by simp[hlet,h4]),show take { pl:=0,l:=acc,win:=0 } (Utf8.decode ⟨(b::r).toArray⟩ 0).1=some { pl:=1,l:=acc++[(((Utf8.decode ⟨(b::r).toArray⟩ 0).1:Int),false)],win:=0 } by
      simp[take,takeSteps,addStep,n1,n2,n3,hlet,h4]]
     simp only[]
     generalize Utf8.decode ⟨(b::r).toArray⟩ 0=q at *
     obtain⟨c,n⟩:=q
     simp only[] at *
     generalize hs1:(b::r).drop n=s1
     have hl1:s1.length < f:=by
      rw[← hs1,List.length_drop]
      simp at hf ⊢
      omega
     by_cases hpl:s1.head?=some 43
     ·cases s1 with
      | nil=>cases hpl
      | cons d s2=>
       obtain rfl:d=43:=by simpa using hpl
       rw[run_ascii 43 s2 _ (by decide),show take { pl:=1,l:=acc++[((c:Int),false)],win:=0 } ((43:UInt8).toNat:Int)=some { pl:=2,l:=acc++[((c:Int),true)],win:=0 } by
        simp[take,takeSteps,addPlus,plusLast_snoc]]
       simp only[List.head?_cons,beq_self_eq_true,if_true,List.drop_succ_cons,List.drop_zero]
       rw[fin_mid s2 2 (Or.inr rfl) _ (by simp) (by intro e;cases e)]
       split
       ·rfl
       ·rename_i hn47
        split
        ·have:=sp_length s2
         exact ih (sp s2) _ (by simp at hl1;omega) (sp_head s2) (Or.inl hn47)
        ·rfl
     ·have e1:(s1.head? == some 43)=false:=by simpa using hpl
      rw[e1]
      simp only[Bool.false_eq_true,if_false]
      rw[fin_mid s1 1 (Or.inl rfl) _ (by simp) (fun _=>hpl)]
      split
      ·rfl
      ·rename_i hn47
       split
       ·have:=sp_length s1
        exact ih (sp s1) _ (by omega) (sp_head s1) (Or.inl hn47)
       ·rfl
   ·have hlet':isLetterU (Utf8.decode ⟨(b::r).toArray⟩ 0).1=false:=by simpa using hlet
    rw[if_pos (by right;left;exact hlet')]
    have hn:take { pl:=0,l:=acc,win:=0 } (Utf8.decode ⟨(b::r).toArray⟩ 0).1=none:=by
     simp only[take,takeSteps,addPlus]
     rw[if_pos (by simp),if_neg (by
      intro e;have:=byte_of (k:=32) (by omega) e
      exact h32 (by rw[UInt8.toNat_inj.1 (show b.toNat=(32:UInt8).toNat by rw[this];rfl)];rfl))]
     split
     ·rfl
     ·split
      ·rename_i e
       have hb47:=byte_of (k:=47) (by omega) e
       have hb:b=47:=UInt8.toNat_inj.1 (show b.toNat=(47:UInt8).toNat by rw[hb47];rfl)
       rcases h47 with h | h
       ·exact absurd (by rw[hb];rfl) h
       ·simp[h]
      ·rfl
    rw[hn]
    rfl
theorem ref_parse (l:List UInt8)(f:Nat)(hf:l.length < f):refLoop f (sp l) []=parse ⟨l.toArray⟩:=by
 have:=sp_length l
 rw[← ref_run f (sp l) [] (by omega) (sp_head l) (Or.inr rfl),parse_fin,← run_sp0]
 rfl
end Pl
end Go.Proofs.YtfldcmdhneegmaaGreatDoor
namespace Go.Proofs.YtfldcmdhneegmaaGreatDoor
open Go.RowKit Go.Lib
theorem extract_from (t:List UInt8)(k:Nat):(⟨t.toArray⟩:ByteArray).extract k t.length=⟨(t.drop k).toArray⟩:=by
 apply ByteArray.ext
 rw[ByteArray.data_extract]
 apply Array.ext
 ·simp
 ·intro i h1 h2
  simp
theorem slice_from (t:List UInt8)(i:Int)(k:Nat)(hi:i=k)(hk:k≤t.length)(w:World):(Instr.slice 9 (.string ⟨t.toArray⟩) (some (.int .i64 i)) none none).run Tryz.prog w=.ok (.string ⟨(t.drop k).toArray⟩) w:=by
 subst hi
 rw[run_slice_string_from_if (P:=Tryz.prog) w 9 ⟨t.toArray⟩ .i64 k Tryz.underlying9]
 rw[if_pos ⟨by omega,by simp[ByteArray.size];omega⟩,show (k:Int).toNat=k by omega,show (⟨t.toArray⟩:ByteArray).size=t.length by simp[ByteArray.size],extract_from t k]
theorem sp_stop {l:List UInt8}{k:Nat}(h1:Pl.sp (l.drop k)=Pl.sp l)(h2:0 < k→l.head?=some 32)(h3:∀h:k < l.length,l[k]≠32):l.drop k=Pl.sp l∧decide (0 < k)=(l.head? == some 32):=by
 constructor
 ·rw[← h1]
  by_cases h:k < l.length
  ·rw[List.drop_eq_getElem_cons h,Pl.sp_cons _ (h3 h)]
  ·rw[List.drop_eq_nil_of_le (by omega)];rfl
 ·by_cases h0:0 < k
  ·rw[h2 h0];simp[h0]
  ·obtain rfl:k=0:=by omega
   cases l with
   | nil=>rfl
   | cons b r=>
    have:=h3 (by simp)
    simpa using this
theorem spaces_any (l:List UInt8)(w:World)(hl:l.length≤100) :
  Calls Tryz.prog 43 #[.string ⟨l.toArray⟩] w fun e w'=>e=.returned (.tuple #[.string ⟨(Pl.sp l).toArray⟩,.bool (l.head? == some 32)])∧w'=w:=by
 go_enter Tryz.func43,Tryz.ntmps43
 go_wp2
 go_loop [4] (fun n=>∃k:Nat,k≤l.length∧n=.int .i64 k∧Pl.sp (l.drop k)=Pl.sp l∧(0 < k→l.head?=some 32)) (fun n=>l.length - (intOf n).toNat)
 case atStart=>exact⟨0,Nat.zero_le _,rfl,rfl,by omega⟩
 case round=>
  obtain⟨k,hk,rfl,hs,hh⟩:=hrel
  have HS:=hid (And.intro hs hh)
  clear hs hh
  by_cases hlt:k < l.length
  ·have hix:=index_one l k hlt w
   by_cases h32:l[k]=32
   ·have hb:((l[k].toNat:Int) == 32)=true:=by rw[h32];rfl
    have H32:=hid h32
    clear h32
    go_wp2
    go_round
    case rel=>
     have hd:l.drop k=32::l.drop (k+1):=by rw[List.drop_eq_getElem_cons hlt,H32.out]
     refine⟨k+1,by omega,by go_num,?_,?_⟩
     ·rw[← HS.out.1,hd,Pl.sp_cons32]
     ·intro _
      by_cases h0:k=0
      ·subst h0
       rw[List.drop_zero] at hd
       rw[hd];rfl
      ·exact HS.out.2 (by omega)
    case measure=>simp[intOf];omega
   ·have hb:((l[k].toNat:Int) == 32)=false:=by
     rw[beq_eq_false_iff_ne]
     intro e
     apply h32
     apply UInt8.toNat_inj.1
     have:(32:UInt8).toNat=32:=rfl
     omega
    have H32:=hid h32
    clear h32
    have hsl:=slice_from l k k rfl (by omega) w
    have hst:=sp_stop HS.out.1 HS.out.2 (fun _=>H32.out)
    rw[hst.1] at hsl
    have HD:=hid hst.2
    clear hst
    go_wp2
    go_ret2
    exact⟨by simp;exact HD.out,rfl⟩
  ·have hsl:=slice_from l k k rfl (by omega) w
   have hst:=sp_stop HS.out.1 HS.out.2 (fun h=>absurd h hlt)
   rw[hst.1] at hsl
   have HD:=hid hst.2
   clear hst
   go_wp2
   go_ret2
   exact⟨by simp;exact HD.out,rfl⟩
theorem bytes_one (w:World)(u:Int)(h0:0≤u)(h9:u < 10):(convert 25 9 (.slice (some ⟨w.heap.size,0,none⟩) 1 1)).run Tryz.prog (w.alloc (.cells #[.int .u8 (48+u)] 5))=.ok (.string ⟨#[UInt8.ofNat (48+u.toNat)]⟩) (w.alloc (.cells #[.int .u8 (48+u)] 5)):=by
 have hn:(UInt8.ofNat (48+u.toNat)).toNat=48+u.toNat:=by simp;omega
 have:=run_convert_bytes_back (P:=Tryz.prog) (w.alloc (.cells #[.int .u8 (48+u)] 5)) 25 9 5 ⟨w.heap.size,0,none⟩ 1 [UInt8.ofNat (48+u.toNat)] Tryz.underlying25 Tryz.underlying5 Tryz.underlying9 (by
  intro j hj
  have h0':j=0:=by simp at hj;omega
  subst h0'
  simp only[List.getElem_cons_zero,hn]
  simp[Addr.add]
  omega)
 simpa using this
theorem digits_any (n:Int)(w:World)(h0:0≤n)(h9:n≤9999) :
  Calls Tryz.prog 95 #[.int .i64 n] w fun e w'=>e=.returned (.string ⟨(decDigits n.toNat).toArray⟩)∧Below w.heap.size w w':=by
 go_enter Tryz.func95,Tryz.ntmps95
 go_wp2
 go_loopw [0,3] (fun m s wr=>∃(u:Nat) (acc:List UInt8),u≤9999∧m=.int .i64 u∧s=.string ⟨acc.toArray⟩∧Hid (decDigits u++acc=decDigits n.toNat∧Below w.heap.size w wr)) (fun m _ _=>(intOf m).toNat)
 case atStart=>exact⟨n.toNat,[],by omega,by go_num,rfl,by simp,Below.refl _ _⟩
 case round=>
  obtain⟨u,acc,hu,rfl,rfl,hr⟩:=hrel
  have ha:acc.length≤4:=by
   have h1:=congrArg List.length hr.out.1
   have h2:=Pl.decDigits_length n.toNat (by omega)
   rw[List.length_append] at h1
   omega
  by_cases h10:9 < u
  ·have h10':(9:Int) < (u:Int):=by omega
   have hcv:=bytes_one wr ((u:Int) % 10) (by omega) (by omega)
   go_wp2
   go_roundw
   case rel=>
    refine⟨u / 10,[UInt8.ofNat (48+u % 10)]++acc,by omega,by go_num,?_,?_,hr.out.2.alloc hr.out.2.size _⟩
    ·rw[ByteArray.mk_append_mk]
     simp
    ·rw[← hr.out.1]
     rw[show decDigits u=decDigits (u / 10)++[UInt8.ofNat (48+u % 10)] by rw[decDigits,dif_neg (by omega)]]
     simp
   case measure=>simp[intOf];omega
  ·have h10':¬ (9:Int) < (u:Int):=by omega
   have hcv:=bytes_one wr (u:Int) (by omega) (by omega)
   go_wp2
   go_ret
   refine⟨?_,hr.out.2.alloc hr.out.2.size _⟩
   rw[← hr.out.1,show decDigits u=[UInt8.ofNat (48+u)] by rw[decDigits,dif_pos (by omega)]]
   simp[ByteArray.mk_append_mk]
theorem num_snoc (l:List UInt8)(b:UInt8):Pl.numOf (l++[b])=10 * Pl.numOf l+((b.toNat:Int) - 48):=by simp[Pl.numOf]
theorem digs_more (f:Nat)(t:List UInt8)(k:Nat)(hk:k < t.length)(hd:Pl.isDig t[k]=true):Pl.digs (f+1) (t.drop k)=Pl.digs f (t.drop (k+1))+1:=by
 rw[List.drop_eq_getElem_cons hk]
 simp[Pl.digs,hd]
theorem digs_stop (f:Nat)(t:List UInt8)(k:Nat)(h:∀hk:k < t.length,Pl.isDig t[k]=false):Pl.digs f (t.drop k)=0:=by
 cases f with
 | zero=>rfl
 | succ f=>
  by_cases hk:k < t.length
  ·rw[List.drop_eq_getElem_cons hk]
   simp[Pl.digs,h hk]
  ·rw[List.drop_eq_nil_of_le (by omega)]
   rfl
structure WRel (t:List UInt8)(k:Nat):Prop where
 le:k≤t.length
 le5:k≤5
 digs:Pl.digs 5 t=k+Pl.digs (5 - k) (t.drop k)
 lo:0≤Pl.numOf (t.take k)
 hi:Pl.numOf (t.take k) < 10 ^ k
theorem wrel_zero (t:List UInt8):WRel t 0:=⟨Nat.zero_le _,by omega,by simp,by simp[Pl.numOf],by simp[Pl.numOf]⟩
theorem wrel_succ {t:List UInt8}{k:Nat}(h:WRel t k)(hk:k < t.length)(h5:k < 5)(hd:Pl.isDig t[k]=true):WRel t (k+1)∧Pl.numOf (t.take (k+1))=10 * Pl.numOf (t.take k)+((t[k].toNat:Int) - 48):=by
 have e:Pl.numOf (t.take (k+1))=10 * Pl.numOf (t.take k)+((t[k].toNat:Int) - 48):=by rw[Pl.take_snoc t k hk,num_snoc]
 obtain⟨_,_,h3,h4⟩:=Pl.dig_take hd
 refine⟨⟨by omega,by omega,?_,?_,?_⟩,e⟩
 ·rw[h.digs,show 5 - k=(5 - (k+1))+1 by omega,digs_more _ t k hk hd]
  omega
 ·rw[e];have:=h.lo;omega
 ·rw[e,Int.pow_succ];have:=h.hi;omega
theorem wrel_stop {t:List UInt8}{k:Nat}(h:WRel t k)(hs:k=5∨∀hk:k < t.length,Pl.isDig t[k]=false):Pl.digs 5 t=k:=by
 rw[h.digs]
 rcases hs with rfl | hs
 ·rfl
 ·rw[digs_stop _ t k hs];omega
theorem wrel_bound {t:List UInt8}{k:Nat}(h:WRel t k):Pl.numOf (t.take k) < 100000:=by
 have h1:=h.hi
 have h2:=h.le5
 match k,h2,h1 with
 | 0,_,h1=>omega
 | 1,_,h1=>omega
 | 2,_,h1=>omega
 | 3,_,h1=>omega
 | 4,_,h1=>omega
 | 5,_,h1=>omega
theorem head_zero (t:List UInt8)(h:0 < t.length):t.head?=some t[0]:=by
 cases t with
 | nil=>simp at h
 | cons b r=>rfl
theorem ne48 {b:UInt8}(h:b≠48):((b.toNat:Int) == 48)=false:=by
 rw[beq_eq_false_iff_ne]
 intro e
 apply h
 apply UInt8.toNat_inj.1
 have:(48:UInt8).toNat=48:=rfl
 omega
theorem window_any (l:List UInt8)(w:World)(hl:l.length≤100) :
  Calls Tryz.prog 46 #[.string ⟨l.toArray⟩] w fun e w'=>e=.returned (.int .i64 (Pl.winOf l))∧w'=w:=by
 have hsl:=Pl.sp_length l
 have HC:=hid (spaces_any l w hl)
 have HWn:Hid (Pl.winOf l=if Pl.digs 5 (Pl.sp l)=0∨4 < Pl.digs 5 (Pl.sp l)∨(1 < Pl.digs 5 (Pl.sp l)∧(Pl.sp l).head?=some 48)∨Pl.sp ((Pl.sp l).drop (Pl.digs 5 (Pl.sp l)))≠[] then -1 else Pl.numOf ((Pl.sp l).take (Pl.digs 5 (Pl.sp l)))):=rfl
 generalize Pl.winOf l=res at HWn ⊢
 generalize Pl.sp l=t at HC hsl HWn
 have htl:t.length≤100:=by omega
 clear hsl
 go_enter Tryz.func46,Tryz.ntmps46
 go_wp2_with (go_at_call 43;refine HC.out.mono ?_;rintro e w' ⟨rfl,rfl⟩)
 clear HC
 go_loop [3,4] (fun n i=>∃k:Nat,i=.int .i64 k∧n=.int .i64 (Pl.numOf (t.take k))∧Hid (WRel t k)) (fun _ i=>t.length - (intOf i).toNat)
 case atStart=>exact⟨0,rfl,by simp[Pl.numOf],wrel_zero t⟩
 case round=>
  obtain⟨k,rfl,rfl,hr⟩:=hrel
  have hb:=wrel_bound hr.out
  have hlo:=hr.out.lo
  have hkl:=hr.out.le
  have hk5:=hr.out.le5
  generalize hnn:Pl.numOf (t.take k)=nn at hb hlo
  have HN:=hid hnn
  clear hnn
  by_cases hgo:k < 5∧∃hk:k < t.length,Pl.isDig t[k]=true
  ·obtain⟨h5,hk,hd⟩:=hgo
   have hix:=index_one t k hk w'
   obtain⟨d1,d2,d3,d4⟩:=Pl.dig_take hd
   have h5':(k:Int) < 5:=by omega
   have HD:=hid hd
   clear hd d2
   go_wp2
   go_round
   case rel=>
    obtain⟨r1,r2⟩:=wrel_succ hr.out hk h5 HD.out
    refine⟨k+1,by go_num,?_,r1⟩
    rw[r2,HN.out]
   case measure=>simp[intOf];omega
  ·have hstop:k=5∨∀hk:k < t.length,Pl.isDig t[k]=false:=by
    by_cases h5:k=5
    ·exact Or.inl h5
    ·right
     intro hk
     cases hd:Pl.isDig t[k] with
     | false=>rfl
     | true=>exact absurd ⟨by omega,hk,hd⟩ hgo
   have hdg:=wrel_stop hr.out hstop
   have HG:=hid hdg
   have HST:=hid hstop
   clear hgo hstop hdg
   have HC:=hid (spaces_any (t.drop k) w' (by rw[List.length_drop];omega))
   have hsf:=slice_from t k k rfl hkl w'
   have hsl:=Pl.sp_length (t.drop k)
   generalize hrs:Pl.sp (t.drop k)=rs at HC hsl
   have HRS:=hid hrs
   clear hrs
   have hfin:=HWn.out
   rw[HG.out,HRS.out,HN.out] at hfin
   have HF:=hid hfin
   clear hfin HWn HG HRS HN hr
   have hex:(¬ k < t.length)∨(∃_hk:k < t.length,(t[k].toNat:Int) < 48)∨(∃_hk:k < t.length,(57:Int) < (t[k].toNat:Int))∨(∃_hk:k < t.length,k=5∧(48:Int)≤(t[k].toNat:Int)∧(t[k].toNat:Int)≤57):=by
    by_cases hk:k < t.length
    ·by_cases c1:(t[k].toNat:Int) < 48
     ·exact Or.inr (Or.inl ⟨hk,c1⟩)
     ·by_cases c2:(57:Int) < (t[k].toNat:Int)
      ·exact Or.inr (Or.inr (Or.inl ⟨hk,c2⟩))
      ·refine Or.inr (Or.inr (Or.inr ⟨hk,?_,by omega,by omega⟩))
       rcases HST.out with h | h
       ·exact h
       ·have:=h hk
        have hd:Pl.isDig t[k]=true:=by unfold Pl.isDig;exact decide_eq_true (by omega)
        rw[hd] at this;cases this
    ·exact Or.inl hk
   clear HST
   rcases hex with hk | ⟨hk,hc⟩ | ⟨hk,hc⟩ | ⟨hk,h5,hc1,hc2⟩
   ·skip
    by_cases hk0:k=0
    ·have hk0':((k:Int) == 0)=true:=by simpa using hk0
     have HK0:=hid hk0
     clear hk0
     go_wp2_with (go_at_call 43;refine HC.out.mono ?_;rintro e w2 ⟨rfl,hw2⟩;have HW2:=hid hw2;clear hw2)
     go_ret
     rw[HW2.out]
     exact⟨by rw[HF.out];simp[HK0.out],rfl⟩
    ·have hk0':((k:Int) == 0)=false:=by simpa using hk0
     by_cases h4:4 < k
     ·have h4':(4:Int) < (k:Int):=by omega
      go_wp2_with (go_at_call 43;refine HC.out.mono ?_;rintro e w2 ⟨rfl,hw2⟩;have HW2:=hid hw2;clear hw2)
      go_ret
      rw[HW2.out]
      exact⟨by rw[HF.out];simp[h4],rfl⟩
     ·have h4':¬ (4:Int) < (k:Int):=by omega
      by_cases h1:1 < k
      ·have h1':(1:Int) < (k:Int):=by omega
       have ht0:0 < t.length:=by omega
       have hp0:0 < (⟨t.toArray⟩:ByteArray).size:=by simp[ByteArray.size];omega
       have hh:=head_zero t ht0
       by_cases h48:t[0]=48
       ·have hb0:((((⟨t.toArray⟩:ByteArray)[0]'hp0).toNat:Int) == 48)=true:=by rw[show (⟨t.toArray⟩:ByteArray)[0]'hp0=t[0] from rfl,h48];rfl
        have H48:=hid (And.intro h48 hh)
        clear h48 hh
        go_wp2_with (go_at_call 43;refine HC.out.mono ?_;rintro e w2 ⟨rfl,hw2⟩;have HW2:=hid hw2;clear hw2)
        go_ret
        rw[HW2.out]
        exact⟨by rw[HF.out,H48.out.2,H48.out.1];simp[h1],rfl⟩
       ·have hb0:((((⟨t.toArray⟩:ByteArray)[0]'hp0).toNat:Int) == 48)=false:=ne48 h48
        have H48:=hid (And.intro h48 hh)
        clear h48 hh
        cases hrs:rs with
        | nil=>
         have HRS:=hid hrs
         subst hrs
         go_wp2_with (go_at_call 43;refine HC.out.mono ?_;rintro e w2 ⟨rfl,hw2⟩;have HW2:=hid hw2;clear hw2)
         go_ret
         rw[HW2.out]
         refine⟨?_,rfl⟩
         rw[HF.out,H48.out.2,if_neg (by simp[H48.out.1];omega)]
         rfl
        | cons c rs'=>
         subst hrs
         go_wp2_with (go_at_call 43;refine HC.out.mono ?_;rintro e w2 ⟨rfl,hw2⟩;have HW2:=hid hw2;clear hw2)
         go_ret
         rw[HW2.out]
         refine⟨?_,rfl⟩
         rw[HF.out,if_pos (by simp)]
         rfl
      ·have h1':¬ (1:Int) < (k:Int):=by omega
       cases hrs:rs with
       | nil=>
        subst hrs
        go_wp2_with (go_at_call 43;refine HC.out.mono ?_;rintro e w2 ⟨rfl,hw2⟩;have HW2:=hid hw2;clear hw2)
        go_ret
        rw[HW2.out]
        refine⟨?_,rfl⟩
        rw[HF.out,if_neg (by simp;omega)]
        rfl
       | cons c rs'=>
        subst hrs
        go_wp2_with (go_at_call 43;refine HC.out.mono ?_;rintro e w2 ⟨rfl,hw2⟩;have HW2:=hid hw2;clear hw2)
        go_ret
        rw[HW2.out]
        refine⟨?_,rfl⟩
        rw[HF.out,if_pos (by simp)]
        rfl
   ·have hix:=index_one t k hk w'
    have hc':¬ (48:Int)≤(t[k].toNat:Int):=by omega
    by_cases hk0:k=0
    ·have hk0':((k:Int) == 0)=true:=by simpa using hk0
     have HK0:=hid hk0
     clear hk0
     go_wp2_with (go_at_call 43;refine HC.out.mono ?_;rintro e w2 ⟨rfl,hw2⟩;have HW2:=hid hw2;clear hw2)
     go_ret
     rw[HW2.out]
     exact⟨by rw[HF.out];simp[HK0.out],rfl⟩
    ·have hk0':((k:Int) == 0)=false:=by simpa using hk0
     by_cases h4:4 < k
     ·have h4':(4:Int) < (k:Int):=by omega
      go_wp2_with (go_at_call 43;refine HC.out.mono ?_;rintro e w2 ⟨rfl,hw2⟩;have HW2:=hid hw2;clear hw2)
      go_ret
      rw[HW2.out]
      exact⟨by rw[HF.out];simp[h4],rfl⟩
     ·have h4':¬ (4:Int) < (k:Int):=by omega
      by_cases h1:1 < k
      ·have h1':(1:Int) < (k:Int):=by omega
       have ht0:0 < t.length:=by omega
       have hp0:0 < (⟨t.toArray⟩:ByteArray).size:=by simp[ByteArray.size];omega
       have hh:=head_zero t ht0
       by_cases h48:t[0]=48
       ·have hb0:((((⟨t.toArray⟩:ByteArray)[0]'hp0).toNat:Int) == 48)=true:=by rw[show (⟨t.toArray⟩:ByteArray)[0]'hp0=t[0] from rfl,h48];rfl
        have H48:=hid (And.intro h48 hh)
        clear h48 hh
        go_wp2_with (go_at_call 43;refine HC.out.mono ?_;rintro e w2 ⟨rfl,hw2⟩;have HW2:=hid hw2;clear hw2)
        go_ret
        rw[HW2.out]
        exact⟨by rw[HF.out,H48.out.2,H48.out.1];simp[h1],rfl⟩
       ·have hb0:((((⟨t.toArray⟩:ByteArray)[0]'hp0).toNat:Int) == 48)=false:=ne48 h48
        have H48:=hid (And.intro h48 hh)
        clear h48 hh
        cases hrs:rs with
        | nil=>
         have HRS:=hid hrs
         subst hrs
         go_wp2_with (go_at_call 43;refine HC.out.mono ?_;rintro e w2 ⟨rfl,hw2⟩;have HW2:=hid hw2;clear hw2)
         go_ret
         rw[HW2.out]
         refine⟨?_,rfl⟩
         rw[HF.out,H48.out.2,if_neg (by simp[H48.out.1];omega)]
         rfl
        | cons c rs'=>
         subst hrs
         go_wp2_with (go_at_call 43;refine HC.out.mono ?_;rintro e w2 ⟨rfl,hw2⟩;have HW2:=hid hw2;clear hw2)
         go_ret
         rw[HW2.out]
         refine⟨?_,rfl⟩
         rw[HF.out,if_pos (by simp)]
         rfl
      ·have h1':¬ (1:Int) < (k:Int):=by omega
       cases hrs:rs with
       | nil=>
        subst hrs
        go_wp2_with (go_at_call 43;refine HC.out.mono ?_;rintro e w2 ⟨rfl,hw2⟩;have HW2:=hid hw2;clear hw2)
        go_ret
        rw[HW2.out]
        refine⟨?_,rfl⟩
        rw[HF.out,if_neg (by simp;omega)]
        rfl
       | cons c rs'=>
        subst hrs
        go_wp2_with (go_at_call 43;refine HC.out.mono ?_;rintro e w2 ⟨rfl,hw2⟩;have HW2:=hid hw2;clear hw2)
        go_ret
        rw[HW2.out]
        refine⟨?_,rfl⟩
        rw[HF.out,if_pos (by simp)]
        rfl
   ·have hix:=index_one t k hk w'
    have hc':(48:Int)≤(t[k].toNat:Int):=by omega
    have hc2:¬ (t[k].toNat:Int)≤57:=by omega
    by_cases hk0:k=0
    ·have hk0':((k:Int) == 0)=true:=by simpa using hk0
     have HK0:=hid hk0
     clear hk0
     go_wp2_with (go_at_call 43;refine HC.out.mono ?_;rintro e w2 ⟨rfl,hw2⟩;have HW2:=hid hw2;clear hw2)
     go_ret
     rw[HW2.out]
     exact⟨by rw[HF.out];simp[HK0.out],rfl⟩
    ·have hk0':((k:Int) == 0)=false:=by simpa using hk0
     by_cases h4:4 < k
     ·have h4':(4:Int) < (k:Int):=by omega
      go_wp2_with (go_at_call 43;refine HC.out.mono ?_;rintro e w2 ⟨rfl,hw2⟩;have HW2:=hid hw2;clear hw2)
      go_ret
      rw[HW2.out]
      exact⟨by rw[HF.out];simp[h4],rfl⟩
     ·have h4':¬ (4:Int) < (k:Int):=by omega
      by_cases h1:1 < k
      ·have h1':(1:Int) < (k:Int):=by omega
       have ht0:0 < t.length:=by omega
       have hp0:0 < (⟨t.toArray⟩:ByteArray).size:=by simp[ByteArray.size];omega
       have hh:=head_zero t ht0
       by_cases h48:t[0]=48
       ·have hb0:((((⟨t.toArray⟩:ByteArray)[0]'hp0).toNat:Int) == 48)=true:=by rw[show (⟨t.toArray⟩:ByteArray)[0]'hp0=t[0] from rfl,h48];rfl
        have H48:=hid (And.intro h48 hh)
        clear h48 hh
        go_wp2_with (go_at_call 43;refine HC.out.mono ?_;rintro e w2 ⟨rfl,hw2⟩;have HW2:=hid hw2;clear hw2)
        go_ret
        rw[HW2.out]
        exact⟨by rw[HF.out,H48.out.2,H48.out.1];simp[h1],rfl⟩
       ·have hb0:((((⟨t.toArray⟩:ByteArray)[0]'hp0).toNat:Int) == 48)=false:=ne48 h48
        have H48:=hid (And.intro h48 hh)
        clear h48 hh
        cases hrs:rs with
        | nil=>
         have HRS:=hid hrs
         subst hrs
         go_wp2_with (go_at_call 43;refine HC.out.mono ?_;rintro e w2 ⟨rfl,hw2⟩;have HW2:=hid hw2;clear hw2)
         go_ret
         rw[HW2.out]
         refine⟨?_,rfl⟩
         rw[HF.out,H48.out.2,if_neg (by simp[H48.out.1];omega)]
         rfl
        | cons c rs'=>
         subst hrs
         go_wp2_with (go_at_call 43;refine HC.out.mono ?_;rintro e w2 ⟨rfl,hw2⟩;have HW2:=hid hw2;clear hw2)
         go_ret
         rw[HW2.out]
         refine⟨?_,rfl⟩
         rw[HF.out,if_pos (by simp)]
         rfl
      ·have h1':¬ (1:Int) < (k:Int):=by omega
       cases hrs:rs with
       | nil=>
        subst hrs
        go_wp2_with (go_at_call 43;refine HC.out.mono ?_;rintro e w2 ⟨rfl,hw2⟩;have HW2:=hid hw2;clear hw2)
        go_ret
        rw[HW2.out]
        refine⟨?_,rfl⟩
        rw[HF.out,if_neg (by simp;omega)]
        rfl
       | cons c rs'=>
        subst hrs
        go_wp2_with (go_at_call 43;refine HC.out.mono ?_;rintro e w2 ⟨rfl,hw2⟩;have HW2:=hid hw2;clear hw2)
        go_ret
        rw[HW2.out]
        refine⟨?_,rfl⟩
        rw[HF.out,if_pos (by simp)]
        rfl
   ·have hix:=index_one t k hk w'
    have hk0':((k:Int) == 0)=false:=by simp;omega
    have h4':(4:Int) < (k:Int):=by omega
    have h5':¬ (k:Int) < 5:=by omega
    have H5:=hid h5
    clear h5
    go_wp2_with (go_at_call 43;refine HC.out.mono ?_;rintro e w2 ⟨rfl,hw2⟩;have HW2:=hid hw2;clear hw2)
    go_ret
    rw[HW2.out]
    exact⟨by rw[HF.out];simp[H5.out],rfl⟩
theorem encode_eq (c:Int)(hv:Pl.Valid c):Utf8.encode c=⟨(encodeRune c).toArray⟩:=by
 obtain⟨n,rfl⟩:∃n:Nat,c=n:=⟨c.toNat,by rcases hv with h | h<;>omega⟩
 unfold Pl.Valid at hv
 have hval:Utf8.valid (n:Int)=true:=by
  unfold Utf8.valid
  simp
  omega
 unfold Utf8.encode
 rw[if_pos hval]
 simp only[Int.toNat_natCast]
 by_cases c1:n < 128
 ·rw[if_pos c1]
  unfold encodeRune
  rw[encodeRuneZ_one (by omega) (by omega)]
  rfl
 by_cases c2:n < 2048
 ·rw[if_neg c1,if_pos c2]
  unfold encodeRune
  rw[encodeRuneZ_two (by omega) (by omega)]
  simp only[List.map_cons,List.map_nil]
  rw[show ((192+(n:Int) / 64)).toNat=192+n / 64 by omega,show ((128+(n:Int) % 64)).toNat=128+n % 64 by omega]
 by_cases c3:n < 65536
 ·rw[if_neg c1,if_neg c2,if_pos c3]
  unfold encodeRune
  rw[encodeRuneZ_three (by omega)]
  simp only[List.map_cons,List.map_nil]
  rw[show ((224+(n:Int) / 4096)).toNat=224+n / 4096 by omega,show ((128+(n:Int) / 64 % 64)).toNat=128+n / 64 % 64 by omega,show ((128+(n:Int) % 64)).toNat=128+n % 64 by omega]
 ·rw[if_neg c1,if_neg c2,if_neg c3]
  unfold encodeRune
  rw[encodeRuneZ_four (by omega) (by omega)]
  simp only[List.map_cons,List.map_nil]
  rw[show ((240+(n:Int) / 262144)).toNat=240+n / 262144 by omega,show ((128+(n:Int) / 4096 % 64)).toNat=128+n / 4096 % 64 by omega,show ((128+(n:Int) / 64 % 64)).toNat=128+n / 64 % 64 by omega,show ((128+(n:Int) % 64)).toNat=128+n % 64 by omega]
theorem Tryz.infoRefStep:(Tryz.prog.info? 104).map (fun i=>(i.zero,i.size,i.bytes))=some (some (.agg #[.int .i32 0,.bool false]),2,8):=by kernel_rfl
structure PRel (w wr:World)(acc:List (Int × Bool))(v:Value)(win:Int):Prop where
 blk:wr.heap[w.heap.size]?=some (.cells #[v,.int .i64 win] 99 (0,0))
 own:wr.ownsRow (w.heap.size+1) 104 2 v acc.length (stepCells acc)
 bel:Below w.heap.size w wr
theorem PRel.lt {w wr:World}{acc:List (Int × Bool)}{v:Value}{win:Int}(h:PRel w wr acc v win):w.heap.size < wr.heap.size:=lt_of_block h.blk
theorem prel_start (w:World):PRel w (w.alloc (.cells #[.slice none 0 0,.int .i64 0] 99)) [] (.slice none 0 0) 0:=
 ⟨heap_alloc_new w _,World.ownsRow_nil _ _ _ _,(Below.refl _ w).alloc (Nat.le_refl _) _⟩
theorem PRel.below {w wr w2:World}{acc:List (Int × Bool)}{v:Value}{win:Int}(h:PRel w wr acc v win)(hb:Below wr.heap.size wr w2):PRel w w2 acc v win:=
 ⟨by rw[hb.block _ h.lt];exact h.blk,own_below h.own hb,h.bel.trans (hb.mono (Nat.le_of_lt h.lt))⟩
theorem blk2_set {w:World}{b:Nat}{x y:Value}{t:TypeId}(h:w.heap[b]?=some (.cells #[x,y] t (0,0)))(u:Value) :
  (w.setCell ⟨b,0,none⟩ u).heap[b]?=some (.cells #[u,y] t (0,0))∧(w.setCell ⟨b,1,none⟩ u).heap[b]?=some (.cells #[x,u] t (0,0)):=by
 have hlt:=lt_of_block h
 have h':w.heap[b]=.cells #[x,y] t (0,0):=by simpa [Array.getElem?_eq_getElem hlt] using h
 refine⟨?_,?_⟩
 all_goals
  show (w.heap.modify b _)[b]?=_
  rw[Array.getElem?_eq_getElem (by simpa using hlt),Array.getElem_modify_self,h']
  rfl
theorem PRel.grown {w w2 w3:World}{acc:List (Int × Bool)}{v v':Value}{win:Int}{c:Int}{p:Bool}{o:Obj}(h:PRel w w2 acc v win)
  (hown:w3.ownsRow (w.heap.size+1) 104 2 v' (acc.length+1) (stepCells acc++[.int .i32 c,.bool p])) (hg:(w2.alloc o).grownBy w3 v.ownBlock) :
  PRel w (w3.setCell ⟨w.heap.size,0,none⟩ v') (acc++[(c,p)]) v' win∧w3.heap[w.heap.size]?=some (.cells #[v,.int .i64 win] 99 (0,0)):=by
 have hlt:=h.lt
 have hne:some w.heap.size≠v.ownBlock:=fun e=>by have:=(own_block h.own _ e.symm).1;omega
 have hb1:w3.heap[w.heap.size]?=some (.cells #[v,.int .i64 win] 99 (0,0)):=by
  rw[hg.block _ (by simp;omega) hne,Below.heap_alloc _ _ _ hlt];exact h.blk
 refine⟨⟨(blk2_set hb1 v').1,?_,?_⟩,hb1⟩
 ·have:=ownsRow_setCell_below hown (a:=⟨w.heap.size,0,none⟩) (by show w.heap.size < w.heap.size+1;omega) v'
  simpa [stepCells] using this
 ·exact ((h.bel.alloc (Nat.le_of_lt hlt) o).grown hg (by simp;omega) (fun k hk=>by have:=(own_block h.own k hk).1;omega)).setCell (Nat.le_refl _) _
theorem PRel.setWin {w wr:World}{acc:List (Int × Bool)}{v:Value}{win:Int}(h:PRel w wr acc v win)(x:Int):PRel w (wr.setCell ⟨w.heap.size,1,none⟩ (.int .i64 x)) acc v x:=
 ⟨(blk2_set h.blk _).2,ownsRow_setCell_below h.own (by show w.heap.size < w.heap.size+1;omega) _,h.bel.setCell (Nat.le_refl _) _⟩
theorem dec_le (b:UInt8)(r:List UInt8):(Utf8.decode ⟨(b::r).toArray⟩ 0).2≤(b::r).length:=by
 rw[decode_at]
 have hs:(⟨(b::r).toArray⟩:ByteArray).size - 0=(b::r).length:=by simp[ByteArray.size]
 rw[hs]
 have h1:1≤(b::r).length:=by simp
 generalize (b::r).length=n at h1
 unfold decodeN
 repeat' split
 all_goals (simp only[];omega)
def strLen:Value→Nat
 | .string s=>s.size
 | _=>0
def Decodes (w:World):Prop:=Utf8Tabs 2 3 w
theorem Decodes.below {w w':World}(h:Decodes w)(hb:Below w.heap.size w w'):Decodes w':=
 ⟨fun c hc=>cell_below hb (h.1 c hc),fun i hi=>⟨cell_below hb (h.2 i hi).1,cell_below hb (h.2 i hi).2⟩⟩
theorem decode_any (b:UInt8)(r:List UInt8)(W:World)(h:Decodes W) :
  Calls Tryz.prog 44 #[.string ⟨(b::r).toArray⟩] W fun e w'=>e=.returned (.tuple #[.int .i32 (Utf8.decode ⟨(b::r).toArray⟩ 0).1,.int .i64 (Utf8.decode ⟨(b::r).toArray⟩ 0).2])∧Below W.heap.size W w':=by
 have:=Tryz.utf8_DecodeRuneInString ⟨(b::r).toArray⟩ W h
 rw[show decodeGo ⟨(b::r).toArray⟩=Utf8.decode ⟨(b::r).toArray⟩ 0 by unfold decodeGo;rw[if_neg (by simp[ByteArray.size])]] at this
 exact this
theorem decode_nil (W:World)(h:Decodes W) :
  Calls Tryz.prog 44 #[.string ⟨([]:List UInt8).toArray⟩] W fun e w'=>e=.returned (.tuple #[.int .i32 65533,.int .i64 0])∧Below W.heap.size W w':=by
 have:=Tryz.utf8_DecodeRuneInString ⟨([]:List UInt8).toArray⟩ W h
 exact this
def RefEnd (q:Option (List (Int × Bool) × Int))(w:World)(e:Ending)(w':World):Prop:=
 match q with
 | none=>e=.returned (.tuple #[.pointer none,.int .i64 2])∧Below w.heap.size w w'
 | some (l,win)=>∃v,e=.returned (.tuple #[.pointer (some ⟨w.heap.size,0,none⟩),.int .i64 0])∧PRel w w' l v win
end Go.Proofs.YtfldcmdhneegmaaGreatDoor

import Derived.Test.YtfldcmdhneegmaaGreatDoorShelf
import Derived.Shelf.Strings.BuilderRune
import Derived.Test.YtfldcmdhneegmaaGreatDoorX20
import Derived.Sort.Grow
import Derived.Test.YtfldcmdhneegmaaGreatDoorX08
set_option maxHeartbeats 4000000
set_option maxRecDepth 1000000
namespace Go.Proofs.YtfldcmdhneegmaaGreatDoor
open Go.RowKit
theorem Tryz.infoBuilder:(Tryz.prog.info? 223).map (·.size)=some 2:=by kernel_rfl
theorem Tryz.liesBuilder:liesAt Tryz.prog Tryz.prog.depth 223 (2 / Tryz.prog.cellsOf 223) 0 223 1=true:=by kernel_rfl
theorem Tryz.infoByte:(Tryz.prog.info? 5).map (fun i=>(i.zero,i.size,i.bytes))=some (some (.int .u8 0),1,1):=by kernel_rfl
theorem copyCheck_used (b:Nat)(w:World)(h0:w.cell? ⟨b,0,none⟩=some (.pointer (some ⟨b,0,none⟩))) :
  Calls Tryz.prog 194 #[.pointer (some ⟨b,0,none⟩)] w fun e w'=>e=.returned (.tuple #[])∧w'=w:=by
 obtain⟨j,hj,_⟩:=Option.map_eq_some_iff.1 Tryz.infoBuilder
 go_enter Tryz.func194,Tryz.ntmps194
 go_wp2
 rw[Lib.run_neq_ptr_same w _ Tryz.underlying221 hj]
 go_wp2
 go_end0
 exact⟨rfl,rfl⟩
theorem copyCheck_fresh (b:Nat)(w:World)(h0:w.cell? ⟨b,0,none⟩=some (.pointer none))(hsh:w.shape? b=some (223,2))(hfz:w.frozen? ⟨b,0,none⟩=false) :
  Calls Tryz.prog 194 #[.pointer (some ⟨b,0,none⟩)] w fun e w'=>e=.returned (.tuple #[])∧w'=w.setCell ⟨b,0,none⟩ (.pointer (some ⟨b,0,none⟩)):=by
 obtain⟨j,hj,hjs⟩:=Option.map_eq_some_iff.1 Tryz.infoBuilder
 go_enter Tryz.func194,Tryz.ntmps194
 go_wp2
 rw[Lib.run_to_unsafe w ⟨b,0,none⟩ Tryz.underlying221 Tryz.underlying242 hj (by rw[hjs];decide) hsh (Nat.zero_lt_succ 1)]
 simp only[Result.andThen]
 rw[Oper.upon_value]
 go_wp2
 rw[run_callFunc_extern Tryz.func238 (by kernel_rfl) (by kernel_rfl) (by kernel_rfl) (e:=Extern.AbiNoEscape.same) (by kernel_rfl)]
 rw[Lib.run_noEscape]
 simp only[Result.andThen]
 rw[Oper.upon_value]
 go_wp2
 rw[Lib.run_from_unsafe w ⟨b,0,none⟩ Tryz.underlying242 Tryz.underlying221 hj hsh Tryz.liesBuilder]
 simp only[Result.andThen]
 rw[Oper.upon_value]
 go_wp2
 go_end0
 exact⟨rfl,rfl⟩
theorem copyCheck_k (B b:Nat)(bs:List Value)(w:World)(h:Lib.IsBuilderF 223 5 B b bs w) :
  Calls Tryz.prog 194 #[.pointer (some ⟨b,0,none⟩)] w fun e w'=>e=.returned (.tuple #[])∧(Lib.BuilderAtF 223 5 B b (.pointer (some ⟨b,0,none⟩)) bs w'∧Below B w w'∧Lib.OthersKept 5 (some b) w w'):=by
 rcases h with h | h
 ·refine (copyCheck_fresh b w h.cell0 h.shape h.frozen0).mono ?_
  rintro e w' ⟨rfl,rfl⟩
  exact⟨rfl,h.used _,(Below.refl B w).setCell (p:=⟨b,0,none⟩) h.1 _,(Lib.OthersKept.refl _ _ w).setCell ⟨b,0,none⟩ rfl _⟩
 ·refine (copyCheck_used b w h.cell0).mono ?_
  rintro e w' ⟨rfl,rfl⟩
  exact⟨rfl,h,Below.refl B _,Lib.OthersKept.refl _ _ _⟩
theorem writeByte_k (B b:Nat)(bs:List Value)(c:Int)(w:World)(h:Lib.IsBuilderF 223 5 B b bs w)(hlen:bs.length+1≤140737488355328)(hBw:B≤w.heap.size) :
  Calls Tryz.prog 121 #[.pointer (some ⟨b,0,none⟩),.int .u8 c] w fun e w'=>e=.returned .nilIface∧(Lib.BuilderAtF 223 5 B b (.pointer (some ⟨b,0,none⟩)) (bs++[.int .u8 c]) w'∧Below B w w'∧Lib.OthersKept 5 (some b) w w'):=by
 obtain⟨i0,hi,hz0,hz1,hz2⟩:=info_parts Tryz.infoByte
 go_enter Tryz.func121,Tryz.ntmps121
 go_wp2_with (go_at_call 194;refine (copyCheck_k B b bs _ h).mono ?_)
 rintro e w1 ⟨rfl,h1,hb1,hk1⟩
 obtain⟨hB,v,hbk,hown,hne⟩:=h1
 have c0:w1.cell? ⟨b,0,none⟩=some (.pointer (some ⟨b,0,none⟩)):=by rw[Lib.cell_of_heap hbk];rfl
 have c1:w1.cell? ⟨b,1,none⟩=some v:=by rw[Lib.cell_of_heap hbk];rfl
 go_wp2_with (at_builtin;refine wpList_append_ownF _ rfl _ _ 25 rfl B 5 i0 (.int .u8 0) 1 1 Tryz.underlying25 hi hz0 hz1 hz2 rfl (by decide) _ _ _ rfl (hown.alloc _) ⟨w1.heap.size,0,none⟩ 1 1 [.int .u8 c] rfl rfl ?c1 ?c2 ?c3 ?c4 ?c5 ?_)
 case c1=>
  intro j u hj
  match j,hj with
  | 0,hj=>simp at hj;subst hj;simp[Addr.add]
 case c2=>intro u hu;simp at hu;subst hu;rfl
 case c3=>unfold maxLen;omega
 case c4=>omega
 case c5=>have:=hb1.size;simp;omega
 intro v' w2 hown' hgrow _
 have hlt:b < w1.heap.size:=lt_of_block hbk
 have hb2:w2.heap[b]?=some (.cells #[.pointer (some ⟨b,0,none⟩),v] 223 (0,0)):=by
  rw[hgrow.block b (by simp;omega) (fun e=>hne e.symm),Lib.alloc_old w1 _ b hlt]
  exact hbk
 have d0:w2.cell? ⟨b,0,none⟩=some (.pointer (some ⟨b,0,none⟩)):=by rw[Lib.cell_of_heap hb2];rfl
 have d1:w2.cell? ⟨b,1,none⟩=some v:=by rw[Lib.cell_of_heap hb2];rfl
 have f1:w2.frozen? ⟨b,1,none⟩=false:=Lib.frozen_of_heap hb2 1
 obtain⟨g,cap,rfl⟩:∃g cap,v'=.slice (some ⟨g,0,none⟩) (bs.length+1) cap:=by
  rcases hown'.2 with ⟨_,h0⟩ | ⟨g,cap,cur,fz,hv,_⟩
  ·omega
  ·exact⟨g,cap,hv⟩
 go_wp2
 go_ret
 refine⟨rfl,?_,?_,((hk1.alloc _).grown hgrow (Lib.ownsRowF_kind (hown.alloc _))).setCell ⟨b,1,none⟩ rfl _⟩
 ·exact Lib.BuilderAtF.put (T:=223) (e:=5) hB hb2 (bs':=bs++[.int .u8 c]) (by simpa using hown') (by decide)
 ·exact ((hb1.alloc (by have:=hb1.size;omega) _).grown hgrow (by have:=hb1.size;simp;omega) (fun k hk=>(hown.lt k hk).1)).setCell (p:=⟨b,1,none⟩) hB _
theorem writeString_k (B b:Nat)(bs:List Value)(s:ByteArray)(w:World)(h:Lib.IsBuilderF 223 5 B b bs w)(hlen:bs.length+s.size≤140737488355328)(hBw:B≤w.heap.size) :
  Calls Tryz.prog 122 #[.pointer (some ⟨b,0,none⟩),.string s] w fun e w'=>e=.returned (.tuple #[.int .i64 s.size,.nilIface])∧(Lib.BuilderAtF 223 5 B b (.pointer (some ⟨b,0,none⟩)) (bs++Lib.strCells s) w'∧Below B w w'∧Lib.OthersKept 5 (some b) w w'):=by
 obtain⟨i0,hi,hz0,hz1,hz2⟩:=info_parts Tryz.infoByte
 go_enter Tryz.func122,Tryz.ntmps122
 go_wp2_with (go_at_call 194;refine (copyCheck_k B b bs _ h).mono ?_)
 rintro e w1 ⟨rfl,h1,hb1,hk1⟩
 obtain⟨hB,v,hbk,hown,hne⟩:=h1
 have c0:w1.cell? ⟨b,0,none⟩=some (.pointer (some ⟨b,0,none⟩)):=by rw[Lib.cell_of_heap hbk];rfl
 have c1:w1.cell? ⟨b,1,none⟩=some v:=by rw[Lib.cell_of_heap hbk];rfl
 go_wp2_with (at_builtin;refine Lib.wpList_append_own_stringF _ rfl _ _ 25 9 rfl B 5 i0 Tryz.underlying25 Tryz.underlying9 hi hz0 hz1 hz2 _ _ _ rfl hown s rfl ?c3 ?c4 ?c5 ?_)
 case c3=>unfold maxLen;omega
 case c4=>omega
 case c5=>have:=hb1.size;omega
 intro v' w2 hown' hgrow _
 have hlt:b < w1.heap.size:=lt_of_block hbk
 have hb2:w2.heap[b]?=some (.cells #[.pointer (some ⟨b,0,none⟩),v] 223 (0,0)):=by
  rw[hgrow.block b hlt (fun e=>hne e.symm)]
  exact hbk
 have d0:w2.cell? ⟨b,0,none⟩=some (.pointer (some ⟨b,0,none⟩)):=by rw[Lib.cell_of_heap hb2];rfl
 have d1:w2.cell? ⟨b,1,none⟩=some v:=by rw[Lib.cell_of_heap hb2];rfl
 have f1:w2.frozen? ⟨b,1,none⟩=false:=Lib.frozen_of_heap hb2 1
 obtain⟨ao,n',cap,rfl⟩:∃ao n' cap,v'=.slice ao n' cap:=by
  rcases hown'.2 with ⟨hv,_⟩ | ⟨g,cap,cur,fz,hv,_⟩
  ·exact⟨_,_,_,hv⟩
  ·exact⟨_,_,_,hv⟩
 go_wp2
 go_ret2
 refine⟨rfl,?_,?_,(hk1.grown hgrow (Lib.ownsRowF_kind hown)).setCell ⟨b,1,none⟩ rfl _⟩
 ·exact Lib.BuilderAtF.put (T:=223) (e:=5) hB hb2 (bs':=bs++Lib.strCells s) (by simpa [Lib.strCells_length] using hown') (by decide)
 ·exact (hb1.grown hgrow (by have:=hb1.size;omega) (fun k hk=>(hown.lt k hk).1)).setCell (p:=⟨b,1,none⟩) hB _
theorem extra242:Builder.Extra Tryz.prog Tryz.lays242_ren:={
 sizeBuilder:=by kernel_rfl
 liesBuilder:=by kernel_rfl
 t5:=Tryz.underlying5
 a5:=Tryz.isAgg5
 z5:=Tryz.sizeOf5
 v5:=Tryz.zeroValue5
 infoByte:=by kernel_rfl
 cellsByte:=by kernel_rfl
 sizeByte:=by kernel_rfl
 neB5:=by decide }
theorem appendRune_own (B:Nat)(v:Value)(n:Nat)(xs:List Value)(r:Int)(hr0:-2147483648≤r)(hr1:r≤2147483647)(w:World)(hown:w.ownsRowF B 5 1 v n xs)(hlen:n+4≤140737488355328)(hBw:B≤w.heap.size) :
  Calls Tryz.prog 195 #[v,.int .i32 r] w fun e w'=>∃v',e=.returned v'∧w'.ownsRowF B 5 1 v' (n+(Lib.runeCells r).length) (xs++Lib.runeCells r)∧∃o,(w.alloc o).grownBy w' v.ownBlock:=
 Any.utf8_AppendRune_own Tryz.lays242 extra242 B v n xs r hr0 hr1 w hown hlen hBw
theorem writeRune_k (B b:Nat)(bs:List Value)(r:Int)(hr0:-2147483648≤r)(hr1:r≤2147483647)(w:World)(h:Lib.IsBuilderF 223 5 B b bs w)(hlen:bs.length+4≤140737488355328)(hBw:B≤w.heap.size) :
  Calls Tryz.prog 120 #[.pointer (some ⟨b,0,none⟩),.int .i32 r] w fun e w'=>e=.returned (.tuple #[.int .i64 (Lib.runeCells r).length,.nilIface])∧(Lib.BuilderAtF 223 5 B b (.pointer (some ⟨b,0,none⟩)) (bs++Lib.runeCells r) w'∧Below B w w'∧Lib.OthersKept 5 (some b) w w'):=by
 have hk4:=Lib.runeCells_le r
 go_enter Tryz.func120,Tryz.ntmps120
 go_wp2_with (go_at_call 194;refine (copyCheck_k B b bs _ h).mono ?_)
 rintro e w1 ⟨rfl,h1,hb1,hk1⟩
 obtain⟨hB,v,hbk,hown,hne⟩:=h1
 obtain⟨ao,cap,rfl⟩:∃ao cap,v=.slice ao bs.length cap:=by
  rcases hown.2 with ⟨hv,h0⟩ | ⟨g,cap,cur,fz,hv,_⟩
  ·exact⟨none,0,by rw[hv,h0]⟩
  ·exact⟨_,_,hv⟩
 have c0:w1.cell? ⟨b,0,none⟩=some (.pointer (some ⟨b,0,none⟩)):=by rw[Lib.cell_of_heap hbk];rfl
 have c1:w1.cell? ⟨b,1,none⟩=some (.slice ao bs.length cap):=by rw[Lib.cell_of_heap hbk];rfl
 go_wp2_with (go_at_call 195;refine (appendRune_own B _ bs.length bs r hr0 hr1 _ hown hlen (by have:=hb1.size;omega)).mono ?_)
 rintro e w2 ⟨v',rfl,hown',o,hgrow⟩
 have hlt:b < w1.heap.size:=lt_of_block hbk
 have hb2:w2.heap[b]?=some (.cells #[.pointer (some ⟨b,0,none⟩),.slice ao bs.length cap] 223 (0,0)):=by
  rw[hgrow.block b (by simp;omega) (fun e=>hne e.symm),Lib.alloc_old w1 _ b hlt]
  exact hbk
 have d0:w2.cell? ⟨b,0,none⟩=some (.pointer (some ⟨b,0,none⟩)):=by rw[Lib.cell_of_heap hb2];rfl
 have d1:w2.cell? ⟨b,1,none⟩=some (.slice ao bs.length cap):=by rw[Lib.cell_of_heap hb2];rfl
 have f1:w2.frozen? ⟨b,1,none⟩=false:=Lib.frozen_of_heap hb2 1
 obtain⟨g,cap',rfl⟩:∃g cap',v'=.slice (some ⟨g,0,none⟩) (bs.length+(Lib.runeCells r).length) cap':=by
  rcases hown'.2 with ⟨_,h0⟩ | ⟨g,cap',cur,fz,hv,_⟩
  ·omega
  ·exact⟨g,cap',hv⟩
 go_wp2
 go_ret2
 refine⟨?_,?_,?_,((hk1.alloc _).grown hgrow (Lib.ownsRowF_kind (hown.alloc _))).setCell ⟨b,1,none⟩ rfl _⟩
 ·have e:((bs.length:Int)+((Lib.runeCells r).length:Int) - (bs.length:Int))=((Lib.runeCells r).length:Int):=by omega
  simp[e]
 ·exact Lib.BuilderAtF.put (T:=223) (e:=5) hB hb2 (bs':=bs++Lib.runeCells r) (by simpa using hown') (by decide)
 ·exact ((hb1.alloc (by have:=hb1.size;omega) _).grown hgrow (by have:=hb1.size;simp;omega) (fun k hk=>(hown.lt k hk).1)).setCell (p:=⟨b,1,none⟩) hB _
end Go.Proofs.YtfldcmdhneegmaaGreatDoor
namespace Go.Proofs.YtfldcmdhneegmaaGreatDoor
open Go.RowKit Go.Lib
theorem cells_step (x:Int × Bool):byteCells (Pl.stepText x)=runeCells x.1++((if x.2 then [.int .u8 43] else [])++[.int .u8 32]):=by
 unfold Pl.stepText
 rw[byteCells_append,byteCells_encodeRune,byteCells_append]
 cases x.2<;>rfl
structure SRel (l:List (Int × Bool))(win:Int)(v:Value)(w wr:World)(k:Nat):Prop where
 bld:IsBuilderF 223 5 (w.heap.size+1) (w.heap.size+1) (byteCells (Pl.stepsText (l.take k))) wr
 bel:Below (w.heap.size+1) (w.alloc (.cells #[v,.int .i64 win] 154)) wr
 le:w.heap.size+1≤wr.heap.size
theorem srel_start (l:List (Int × Bool))(win:Int)(v:Value)(w:World):SRel l win v w ((w.alloc (.cells #[v,.int .i64 win] 154)).alloc (.cells #[.pointer none,.slice none 0 0] 223)) 0:=by
 refine⟨?_,(Below.refl _ _).alloc (by simp) _,by simp⟩
 have:=IsBuilderF.of (fresh_isBuilder 223 5 (w.alloc (.cells #[v,.int .i64 win] 154)))
 simpa [Pl.stepsText,byteCells] using this
theorem SRel.old {l:List (Int × Bool)}{win:Int}{v:Value}{w wr:World}{k:Nat}(h:SRel l win v w wr k):Below w.heap.size w wr:=
 ((Below.refl _ w).alloc (Nat.le_refl _) _).trans (h.bel.mono (by omega))
theorem SRel.box {l:List (Int × Bool)}{win:Int}{v:Value}{w wr:World}{k:Nat}(h:SRel l win v w wr k):wr.heap[w.heap.size]?=some (.cells #[v,.int .i64 win] 154 (0,0)):=by
 rw[h.bel.block _ (by omega)]
 exact heap_alloc_new w _
theorem step_kept {b:Nat}{w W1:World}{x y:Value}(hk:OthersKept 5 (some b) (w.alloc (.cells #[x,y] 225)) W1)(hb:b < w.heap.size):W1.heap[w.heap.size]?=some (.cells #[x,y] 225 (0,0)):=
 hk w.heap.size _ (heap_alloc_new w _) (fun e=>by have:=Option.some.inj e;omega) (fun c fz e=>by
  have:=Obj.cells.inj e
  exact absurd this.2.1 (by decide))
theorem bld_grow {T e:TypeId}{B b:Nat}{bs:List Value}{w:World}(h:IsBuilderF T e B b bs w)(n:Nat)(os:Array Obj):IsBuilderF T e B b bs (Go.Sort.grow (w.drewN n) os):=by
 have key:∀p,BuilderAtF T e B b p bs w→BuilderAtF T e B b p bs (Go.Sort.grow (w.drewN n) os):=by
  intro p hp
  obtain⟨hB,v,hb,hown,hne⟩:=hp
  have hh:∀k,k < w.heap.size→(Go.Sort.grow (w.drewN n) os).heap[k]?=w.heap[k]?:=fun k hk=>Go.Sort.heap_grow_old (w.drewN n) os hk
  refine⟨hB,v,by rw[hh b (lt_of_block hb)];exact hb,⟨hown.1,?_⟩,hne⟩
  rcases hown.2 with h2 | ⟨g,cap,cur,fz,hv,hg,hgg,r⟩
  ·exact .inl h2
  ·exact .inr ⟨g,cap,cur,fz,hv,hg,by rw[hh g (lt_of_block hgg)];exact hgg,r⟩
 exact h.elim (fun x=>.inl (key _ x)) (fun x=>.inr (key _ x))
theorem below_grow {B:Nat}{a w:World}(h:Below B a w)(hB:B≤w.heap.size)(n:Nat)(os:Array Obj):Below B a (Go.Sort.grow (w.drewN n) os):=
 h.trans ⟨rfl,rfl,rfl,by simp[Go.Sort.grow,World.drewN],fun k hk=>Go.Sort.heap_grow_old (w.drewN n) os (Nat.lt_of_lt_of_le hk hB)⟩
def Pow10 (w:World):Prop:=TabIs Tryz.prog w "internal/strconv.uint64pow10" .u64 pow10Tab
theorem index_one (t:List UInt8)(k:Nat)(hk:k < t.length)(w:World):(Instr.index 9 (.string ⟨t.toArray⟩) (.int .i64 k)).run Tryz.prog w=.ok (.int .u8 t[k].toNat) w:=by
 rw[run_index_string (P:=Tryz.prog) w 9 ⟨t.toArray⟩ .i64 k Tryz.underlying9]
 rw[dif_pos ⟨by omega,by simp[ByteArray.size];omega⟩]
 rfl
theorem steps_get {F:Nat→Prop}{w:World}{g o n cap:Nat}{l:List (Int × Bool)}(h:StepsAt F w (.slice (some ⟨g,o,none⟩) n cap) l)(k:Nat)(hk:k < l.length):w.cell? ⟨g,o+k * 2,none⟩=some (.int .i32 l[k].1)∧w.cell? ⟨g,o+k * 2+1,none⟩=some (.bool l[k].2):=by
 obtain⟨b,o',he,-,c0,c1⟩:=h.get hk
 cases he
 exact⟨c0,c1⟩
theorem pString_row (F:Nat→Prop)(l:List (Int × Bool))(win:Int)(v:Value)(w:World)(hf:Pl.Fine l win)(hown:StepsAt F w v l)(hT:Pow10 w) :
  Calls Tryz.prog 77 #[.agg #[v,.int .i64 win]] w fun e w'=>e=.returned (.string ⟨(Pl.text l win).toArray⟩)∧Below w.heap.size w w':=by
 obtain⟨hne,h4,hw0,hw9,hlt⟩:=hf
 obtain⟨g,o,cap,rfl,hgl⟩:∃g o cap,v=.slice (some ⟨g,o,none⟩) l.length cap∧g < w.heap.size:=by
  rcases hown.2 with ⟨_,h0⟩ | ⟨g,o,cap,hv,-,hg,-⟩
  ·exact absurd (List.length_eq_zero_iff.1 h0) hne
  ·exact⟨g,o,cap,hv,hg⟩
 have HO:=hid hown
 have HT:=hid hT
 have HB:=hid hlt
 clear hown hT hlt
 have hn1:1≤l.length:=List.length_pos_iff.2 hne
 go_enter Tryz.func77,Tryz.ntmps77
 go_wp2
 go_loopw [9] (fun i wr=>∃k:Nat,k≤l.length∧i=.int .i64 k∧Hid (SRel l win (.slice (some ⟨g,o,none⟩) l.length cap) w wr k)) (fun i _=>l.length - (intOf i).toNat)
 case atStart=>exact⟨0,Nat.zero_le _,rfl,srel_start _ _ _ _⟩
 case round=>
  obtain⟨k,hk,rfl,hr⟩:=hrel
  by_cases hlt:k < l.length
  ·obtain⟨s0,s1⟩:=steps_get HO.out k hlt
   have q0:wr.cell? ⟨g,o+k * 2,none⟩=some (.int .i32 l[k].1):=(hr.out.old.cell (by exact hgl)).trans s0
   have q1:wr.cell? ⟨g,o+k * 2+1,none⟩=some (.bool l[k].2):=(hr.out.old.cell (by exact hgl)).trans s1
   clear s0 s1
   have hsz:=hr.out.le
   have hbb:w.heap.size+1 < wr.heap.size:=by
    rcases hr.out.bld with ⟨_,_,hb,_⟩ | ⟨_,_,hb,_⟩<;>exact lt_of_block hb
   have hlen:(byteCells (Pl.stepsText (l.take k))).length≤24:=by
    rw[byteCells_length]
    have:=Pl.stepsText_length (l.take k)
    have:(l.take k).length≤4:=Nat.le_trans (List.length_take_le _ _) (by omega)
    omega
   have hval:=(HB.out l[k] (List.getElem_mem hlt)).2
   have hlo:-2147483648≤l[k].1:=by rcases hval with h | h<;>omega
   have hhi:l[k].1≤2147483647:=by rcases hval with h | h<;>omega
   have hbel0:Below (w.heap.size+1) wr (wr.alloc (.cells #[.int .i32 l[k].1,.bool l[k].2] 225)):=(Below.refl _ _).alloc hsz _
   have HB0:=hid hbel0
   clear hbel0 hval
   have HW:=hid (writeRune_k (w.heap.size+1) (w.heap.size+1) _ l[k].1 hlo hhi _ (hr.out.bld.alloc (.cells #[.int .i32 l[k].1,.bool l[k].2] 225)) (by omega) (by simp;omega))
   cases hm:l[k].2
   ·rw[hm] at q1 HW HB0
    have HM:=hid hm
    clear hm
    go_wp2_with (go_at_call 120;refine HW.out.mono ?_)
    rintro e W1 ⟨rfl,h1,b1,k1⟩
    have sk:=step_kept k1 (by omega)
    have sc:W1.cell? ⟨wr.heap.size,1,none⟩=some (.bool false):=(res_cells sk).2.1
    have hs1:=b1.size
    have HW2:=hid (writeByte_k (w.heap.size+1) (w.heap.size+1) _ 32 W1 (.inr h1) (by simp;have:=runeCells_le l[k].1;omega) (by simp at hs1;omega))
    have H1:=hid b1
    clear h1 b1 k1 sk
    go_wp2_with (go_at_call 121;refine HW2.out.mono ?_)
    rintro e W2 ⟨rfl,h2,b2,k2⟩
    have H2:=hid (And.intro h2 b2)
    clear h2 b2 k2
    go_wp2
    go_roundw
    case rel=>
     refine⟨k+1,by omega,by go_num,?_⟩
     have hs2:=H2.out.2.size
     refine⟨?_,hr.out.bel.trans (HB0.out.trans (H1.out.trans H2.out.2)),by simp at hs1;omega⟩
     rw[Pl.take_snoc l k hlt,Pl.stepsText_snoc,byteCells_append,cells_step,HM.out]
     refine .inr ?_
     have:=H2.out.1
     simpa using this
    case measure=>simp[intOf];omega
   ·rw[hm] at q1 HW HB0
    have HM:=hid hm
    clear hm
    go_wp2_with (go_at_call 120;refine HW.out.mono ?_)
    rintro e W1 ⟨rfl,h1,b1,k1⟩
    have sk:=step_kept k1 (by omega)
    have sc:W1.cell? ⟨wr.heap.size,1,none⟩=some (.bool true):=(res_cells sk).2.1
    have hs1:=b1.size
    have HW2:=hid (writeByte_k (w.heap.size+1) (w.heap.size+1) _ 43 W1 (.inr h1) (by simp;have:=runeCells_le l[k].1;omega) (by simp at hs1;omega))
    have H1:=hid b1
    clear h1 b1 k1 sk
    go_wp2_with (go_at_call 121;refine HW2.out.mono ?_)
    rintro e W2 ⟨rfl,h2,b2,k2⟩
    have hs2:=b2.size
    have HW3:=hid (writeByte_k (w.heap.size+1) (w.heap.size+1) _ 32 W2 (.inr h2) (by simp;have:=runeCells_le l[k].1;omega) (by simp at hs1;omega))
    have H2:=hid b2
    clear h2 b2 k2
    go_wp2_with (go_at_call 121;refine HW3.out.mono ?_)
    rintro e W3 ⟨rfl,h3,b3,k3⟩
    have H3:=hid (And.intro h3 b3)
    clear h3 b3 k3
    go_wp2
    go_roundw
    case rel=>
     refine⟨k+1,by omega,by go_num,?_⟩
     have hs3:=H3.out.2.size
     refine⟨?_,hr.out.bel.trans (HB0.out.trans (H1.out.trans (H2.out.trans H3.out.2))),by simp at hs1;omega⟩
     rw[Pl.take_snoc l k hlt,Pl.stepsText_snoc,byteCells_append,cells_step,HM.out]
     refine .inr ?_
     have:=H3.out.1
     simpa using this
    case measure=>simp[intOf];omega
  ·obtain rfl:k=l.length:=by omega
   have hsz:=hr.out.le
   have hbld:=hr.out.bld
   rw[List.take_length] at hbld
   have hlen:(byteCells (Pl.stepsText l)).length≤24:=by
    rw[byteCells_length]
    have:=Pl.stepsText_length l
    omega
   have hbx:=hr.out.box
   have hlt0:=lt_of_block hbx
   have HW:=hid (writeString_k (w.heap.size+1) (w.heap.size+1) _ ⟨#[47,32]⟩ wr hbld (by simp[ByteArray.size];omega) hsz)
   clear hbld
   go_wp2_with (go_at_call 122;refine HW.out.mono ?_)
   rintro e W1 ⟨rfl,h1,b1,k1⟩
   have hbx1:W1.heap[w.heap.size]?=some (.cells #[.slice (some ⟨g,o,none⟩) l.length cap,.int .i64 win] 154 (0,0)):=by rw[b1.block _ (by omega)];exact hbx
   have bc:=(res_cells hbx1).2.1
   have hold:Below w.heap.size w W1:=hr.out.old.trans (b1.mono (by omega))
   have hs1:=b1.size
   have HF:=hid (Tryz.strconv_FormatInt_10 win (by omega) (by omega) W1 (TabIs_below (g:=5) (by kernel_rfl) HT.out hold))
   have H1:=hid (And.intro h1 b1)
   clear h1 b1 k1 hbx1 hold
   go_wp2_with (go_at_call 123;refine HF.out.mono ?_)
   rintro e W2 ⟨rfl,n,os,hW2⟩
   have h2:=bld_grow (.inr H1.out.1) n os
   have b2:=below_grow H1.out.2 (by omega) n os
   rw[← hW2] at h2 b2
   clear hW2
   have hs2:=b2.size
   have hl4:=Pl.itoa_length win hw0 hw9
   have HW3:=hid (writeString_k (w.heap.size+1) (w.heap.size+1) _ ⟨(itoa win).toArray⟩ W2 h2 (by simp[ByteArray.size,strCells_length];omega) (by omega))
   have H2:=hid b2
   clear h2 b2
   go_wp2_with (go_at_call 122;refine HW3.out.mono ?_)
   rintro e W3 ⟨rfl,h3,b3,k3⟩
   have hs3:=b3.size
   have e3:byteCells (Pl.stepsText l)++strCells ⟨#[47,32]⟩++strCells ⟨(itoa win).toArray⟩=byteCells (Pl.text l win):=by
    simp[Pl.text,byteCells,strCells]
   rw[e3] at h3
   have HW4:=hid (Tryz.Builder_String_any_k (w.heap.size+1) (w.heap.size+1) (Pl.text l win) W3 (.inr h3) (by omega))
   have H3:=hid b3
   clear h3 b3 k3 e3
   go_wp2_with (go_at_call 124;refine HW4.out.mono ?_)
   rintro e W4 ⟨rfl,_,b4,_⟩
   have H4:=hid b4
   clear b4
   go_wp2
   go_ret
   exact⟨rfl,hr.out.old.trans ((H2.out.trans (H3.out.trans H4.out)).mono (by omega))⟩
end Go.Proofs.YtfldcmdhneegmaaGreatDoor

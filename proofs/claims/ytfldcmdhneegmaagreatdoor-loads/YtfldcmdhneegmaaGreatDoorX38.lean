import Derived.Test.YtfldcmdhneegmaaGreatDoorX35
import Derived.Test.YtfldcmdhneegmaaGreatDoorX36
import Derived.Test.YtfldcmdhneegmaaGreatDoorX37
set_option maxHeartbeats 4000000
set_option maxRecDepth 1000000
namespace Go.Proofs.YtfldcmdhneegmaaGreatDoor.Fr
structure Stt where
 steps:List (Int × Bool)
 win:Int
 wm:Int
 nx:Nat
 Q:List En.Ev
 R:List En.Rn
def rdState (l:List UInt8):Option (Stt × List UInt8):=
 match rdPat l with
 | none=>none
 | some ((steps,win),r1)=>
  match rdM r1 with
  | none=>none
  | some (wm,r2)=>
   match rdB 9007199254740992 r2 with
   | none=>none
   | some (nx,r3)=>
    match rdWait steps nx wm r3 with
    | none=>none
    | some (Q,r4)=>
     match rdRuns steps win nx wm Q r4 with
     | none=>none
     | some (R,r5)=>some (⟨steps,win,wm,nx,Q,R⟩,r5)
theorem rdB_num {n limit:Nat}(h:n < limit)(h2:limit≤18446744073709551616)(r:List UInt8):rdB limit (num n++r)=some (n,r):=by
 unfold rdB
 rw[rd_num (by omega)]
 simp[h]
theorem rdM_mom {t:Int}(h1:-9223372036854775808≤t)(h2:t < 9223372036854775808)(r:List UInt8):rdM (mom t++r)=some (t,r):=by
 unfold rdM mom
 rw[rd_num (zig_lt h1 h2)]
 simp[zag_zig]
theorem rdPat_text {st:List (Int × Bool)}{win:Int}(h:Pl.Fine st win)(r:List UInt8):rdPat (num (Pl.text st win).length++(Pl.text st win++r))=some ((st,win),r):=by
 have h1:=Pl.text_length st win h
 unfold rdPat rdT
 rw[rd_num (by omega)]
 simp only[List.length_append]
 rw[if_pos (by omega),List.take_left' rfl,List.drop_left' rfl]
 simp only[]
 rw[if_neg (by omega),Pl.parse_text st win h]
 simp
theorem rdEv_ev {steps:List (Int × Bool)}{nx:Nat}{wm:Int}{e:En.Ev}(h0:0≤e.off)(h1:e.off < nx)(hn:nx≤9007199254740992)(h2:0≤e.kind)(h3:e.kind < 1114112)(h4:(steps.any fun x=>x.1 == e.kind)=true)(h5:wm < e.time)(h6:-9223372036854775808≤wm)(h7:e.time < 9223372036854775808)(r:List UInt8) :
  rdEv steps nx wm (En.evB e++r)=some (e,r):=by
 unfold rdEv En.evB
 rw[List.append_assoc,List.append_assoc,rdB_num (by omega) (by omega)]
 simp only[]
 rw[rdB_num (by omega) (by omega)]
 simp only[]
 have e1:((e.kind.toNat:Nat):Int)=e.kind:=by omega
 have e2:((e.off.toNat:Nat):Int)=e.off:=by omega
 rw[e1,if_pos h4,rdM_mom (by omega) (by omega)]
 simp only[]
 rw[if_pos h5,e2]
theorem rdEvs_evs {steps:List (Int × Bool)}{nx:Nat}{wm:Int}(r:List UInt8):∀(l acc:List En.Ev),(∀e∈l,∀r',rdEv steps nx wm (En.evB e++r')=some (e,r'))→(acc++l).Pairwise (fun a b=>En.evLt a b=true)→((acc++l).map En.Ev.off).Nodup →
  rdEvs steps nx wm l.length acc (En.evsB l++r)=some (acc++l,r):=by
 intro l
 induction l with
 | nil=>intro acc _ _ _;simp[rdEvs,En.evsB]
 | cons x t ih=>
  intro acc h1 h2 h3
  have e1:En.evsB (x::t)++r=En.evB x++(En.evsB t++r):=by simp[En.evsB]
  rw[e1,List.length_cons,rdEvs,h1 x List.mem_cons_self]
  simp only[]
  have h4:(acc.any fun y=>y.off == x.off)=false:=by
   rw[List.any_eq_false]
   intro y hy he
   rw[List.map_append,List.nodup_append] at h3
   exact h3.2.2 y.off (List.mem_map.2 ⟨y,hy,rfl⟩) x.off (by simp) (by simpa using he)
  rw[h4,if_neg (by simp),if_pos]
  ·have e2:acc++x::t=(acc++[x])++t:=by simp
   rw[e2] at h2 h3 ⊢
   exact ih (acc++[x]) (fun e he=>h1 e (List.mem_cons_of_mem _ he)) h2 h3
  ·by_cases ha:acc=[]
   ·exact Or.inl ha
   ·refine Or.inr ?_
    have hp:=List.length_pos_iff.2 ha
    rw[En.nth_eq (by omega)]
    rw[List.pairwise_append] at h2
    exact h2.2.2 _ (List.getElem_mem _) x (by simp)
theorem rdOffs_offs {nx:Nat}{Q:List En.Ev}(hn:nx≤9007199254740992)(r:List UInt8):∀(l acc:List Int),(∀o∈l,0≤o∧o < nx∧∀e∈Q,e.off≠o)→rdOffs nx Q l.length acc (En.offsB l++r)=some (acc++l,r):=by
 intro l
 induction l with
 | nil=>intro acc _;simp[rdOffs,En.offsB]
 | cons x t ih=>
  intro acc h1
  obtain⟨h2,h3,h4⟩:=h1 x List.mem_cons_self
  have e1:En.offsB (x::t)++r=num x.toNat++(En.offsB t++r):=by simp[En.offsB]
  have e2:((x.toNat:Nat):Int)=x:=by omega
  have h5:rdO nx Q (num x.toNat++(En.offsB t++r))=some (x.toNat,En.offsB t++r):=by
   unfold rdO
   rw[rdB_num (by omega) (by omega),Option.filter_some,if_pos]
   simp only[e2]
   rw[Bool.not_eq_true']
   rw[List.any_eq_false]
   intro y hy he
   exact h4 y hy (by simpa using he)
  rw[e1,List.length_cons,rdOffs,h5]
  simp only[]
  rw[e2,ih (acc++[x]) (fun o ho=>h1 o (List.mem_cons_of_mem _ ho))]
  simp
structure LdOk (P:En.Pat)(W Next:Int)(Q:List En.Ev)(B:List En.Rn):Prop where
 fine:Pl.Fine P.steps P.win
 w0:-9223372036854775808≤W
 w1:W < 9223372036854775808
 n0:0≤Next
 n1:Next < 9007199254740992
 q12:Q.length≤12
 apt:En.Apt Q
 evs:∀e∈Q,0≤e.off∧e.off < Next∧0≤e.kind∧e.kind < 1114112∧En.has P e.kind=true∧W < e.time∧e.time < 9223372036854775808
 a24:B.length≤24
 ord:En.Ord B
 run:∀r∈B,r.step < P.steps.length∧En.goes P r.step=true∧r.offs.length≤1000000∧(∀o∈r.offs,0≤o∧o < Next∧∀e∈Q,e.off≠o)∧fits P.steps r.step r.offs.length=true∧r.offs.Nodup∧-9223372036854775808≤r.first∧r.first≤W∧En.far W r.first < P.win
theorem goes_on {P:En.Pat}{s:Nat}(hs:s < P.steps.length)(h:En.goes P s=true):goesOn P.steps s=true:=by
 unfold goesOn
 unfold En.goes En.plusAt at h
 rw[List.getElem?_eq_getElem hs] at h
 simp only[Option.map_some,Option.getD_some,Bool.or_eq_true,decide_eq_true_eq] at h
 rw[List.getD_eq_getElem?_getD,List.getElem?_eq_getElem hs]
 simp only[Option.getD_some,Bool.or_eq_true,Bool.not_eq_true',decide_eq_false_iff_not]
 rcases h with h | h
 ·exact Or.inl (by omega)
 ·exact Or.inr h
theorem rdRun_run {P:En.Pat}{W Next:Int}{Q Q':List En.Ev}{B:List En.Rn}(h:LdOk P W Next Q B)(hQ:∀e,e∈Q'↔e∈Q){x:En.Rn}(hx:x∈B)(r:List UInt8):rdRun P.steps P.win Next.toNat W Q' (En.runB x++r)=some (x,r):=by
 obtain⟨h1,h2,h3,h4,h5,h6,h7,h8,h9⟩:=h.run x hx
 have n0:=h.n0
 have n1:=h.n1
 have w1:=h.w1
 have s4:=h.fine.l4
 unfold rdRun En.runB
 rw[List.append_assoc,List.append_assoc,List.append_assoc,rdB_num h1 (by omega)]
 simp only[]
 rw[goes_on h1 h2,if_pos rfl,rd_num (by omega)]
 simp only[]
 rw[rdOffs_offs (by omega) _ x.offs [] (fun o ho=>⟨(h4 o ho).1,by have:=(h4 o ho).2.1;omega,fun e he=>(h4 o ho).2.2 e ((hQ e).1 he)⟩)]
 simp only[List.nil_append]
 rw[h5,if_pos rfl,if_pos (by unfold twice;exact decide_eq_false (fun hn=>hn h6)),rdM_mom (by omega) (by omega)]
 simp only[]
 rw[if_pos h8,if_pos h9]
theorem rdRns_runs {steps:List (Int × Bool)}{win:Int}{nx:Nat}{wm:Int}{Q:List En.Ev}(r:List UInt8):∀(l acc:List En.Rn),(∀x∈l,∀r',rdRun steps win nx wm Q (En.runB x++r')=some (x,r'))→(acc++l).Pairwise (fun a b=>En.cmpR a b < 0) →
  rdRns steps win nx wm Q l.length acc (En.runsB l++r)=some (acc++l,r):=by
 intro l
 induction l with
 | nil=>intro acc _ _;simp[rdRns,En.runsB]
 | cons x t ih=>
  intro acc h1 h2
  have e1:En.runsB (x::t)++r=En.runB x++(En.runsB t++r):=by simp[En.runsB]
  rw[e1,List.length_cons,rdRns,h1 x List.mem_cons_self]
  simp only[]
  rw[if_pos]
  ·have e2:acc++x::t=(acc++[x])++t:=by simp
   rw[e2] at h2 ⊢
   exact ih (acc++[x]) (fun e he=>h1 e (List.mem_cons_of_mem _ he)) h2
  ·unfold okRn
   cases ha:acc.getLast? with
   | none=>rfl
   | some y=>
    rw[List.pairwise_append] at h2
    exact decide_eq_true (h2.2.2 y (List.mem_of_getLast? ha) x (by simp))
theorem inOrd_pair {l:List En.Ev}(h:En.InOrd l)(ha:En.Apt l):l.Pairwise (fun a b=>En.evLt a b=true):=by
 induction l with
 | nil=>exact List.Pairwise.nil
 | cons x t ih=>
  have ha':(x.off::t.map En.Ev.off).Nodup:=ha
  rw[List.nodup_cons] at ha'
  refine List.Pairwise.cons (fun y hy=>?_) (ih h.2 ha'.2)
  have h1:=h.1 y hy
  have h2:x.off≠y.off:=fun e=>ha'.1 (by rw[e];exact List.mem_map.2 ⟨y,hy,rfl⟩)
  rw[En.evLe_iff] at h1
  rw[En.evLt_iff]
  omega
theorem ord_pair {l:List En.Rn}(h:En.Ord l):l.Pairwise (fun a b=>En.cmpR a b < 0):=by
 induction l with
 | nil=>exact List.Pairwise.nil
 | cons x t ih=>
  refine List.Pairwise.cons (fun y hy=>?_) (ih h.2)
  have h1:=h.1 y hy
  rw[En.lt_cmp] at h1
  exact of_decide_eq_true h1
theorem rdState_back {P:En.Pat}{W Next:Int}{Q:List En.Ev}{B:List En.Rn}(h:LdOk P W Next Q B):rdState ((En.stateB (Pl.text P.steps P.win) W Next Q B).drop 1)=some (⟨P.steps,P.win,W,Next.toNat,En.sortEv Q,B⟩,[]):=by
 have n0:=h.n0
 have n1:=h.n1
 have w0:=h.w0
 have hp:=En.sortEv_perm Q
 have hl:=hp.length_eq
 have q12:=h.q12
 have a24:=h.a24
 have e1:(En.stateB (Pl.text P.steps P.win) W Next Q B).drop 1=num (Pl.text P.steps P.win).length++(Pl.text P.steps P.win++(mom W++(num Next.toNat++(num (En.sortEv Q).length++(En.evsB (En.sortEv Q)++(num B.length++(En.runsB B++[]))))))):=by
  simp[En.stateB,En.headB,hl]
 have ha:=h.apt.perm hp
 unfold rdState
 rw[e1,rdPat_text h.fine]
 simp only[]
 rw[rdM_mom h.w0 h.w1]
 simp only[]
 rw[rdB_num (by omega) (by omega)]
 simp only[]
 unfold rdWait
 rw[rdB_num (by omega) (by omega)]
 simp only[]
 rw[rdEvs_evs _ (En.sortEv Q) [] (fun e he r'=>by
  obtain⟨a1,a2,a3,a4,a5,a6,a7⟩:=h.evs e (hp.mem_iff.1 he)
  exact rdEv_ev a1 (by omega) (by omega) a3 a4 a5 a6 h.w0 a7 r') (inOrd_pair (En.sortEv_ord Q) ha) ha]
 simp only[List.nil_append]
 unfold rdRuns
 rw[rdB_num (by omega) (by omega)]
 simp only[]
 rw[rdRns_runs _ B [] (fun x hx r'=>rdRun_run h (fun e=>hp.mem_iff) hx r') (ord_pair h.ord)]
 simp
end Go.Proofs.YtfldcmdhneegmaaGreatDoor.Fr
namespace Go.Proofs.YtfldcmdhneegmaaGreatDoor
open Go.RowKit Go.Lib
theorem eng_set0 {w:World}{b:Nat}{x0 x1 x2 x3 x4 x5:Value}{t:TypeId}(h:w.heap[b]?=some (.cells #[x0,x1,x2,x3,x4,x5] t (0,0)))(u:Value) :
  (w.setCell ⟨b,0,none⟩ u).heap[b]?=some (.cells #[u,x1,x2,x3,x4,x5] t (0,0))∧(w.setCell ⟨b,1,none⟩ u).heap[b]?=some (.cells #[x0,u,x2,x3,x4,x5] t (0,0)) ∧
  (w.setCell ⟨b,2,none⟩ u).heap[b]?=some (.cells #[x0,x1,u,x3,x4,x5] t (0,0))∧(w.setCell ⟨b,3,none⟩ u).heap[b]?=some (.cells #[x0,x1,x2,u,x4,x5] t (0,0)):=by
 have hlt:=lt_of_block h
 have h':w.heap[b]=.cells #[x0,x1,x2,x3,x4,x5] t (0,0):=by simpa [Array.getElem?_eq_getElem hlt] using h
 refine⟨?_,?_,?_,?_⟩<;>
 ·show (w.heap.modify b _)[b]?=_
  rw[Array.getElem?_eq_getElem (by simpa using hlt),Array.getElem_modify_self,h']
  rfl
structure EngNew (n:Nat)(W:World)(eb:Nat)(s:Fr.Stt)(vs vq vr:Value)(A:List RV):Prop where
 blk:W.heap[eb]?=some (.cells #[vs,.int .i64 s.win,.int .i64 s.wm,.int .i64 s.nx,vq,vr] 159 (0,0))
 ge:n≤eb
 row:∃m,StepsAt (fun b=>n≤b∧b≠eb∧b < m) W vs s.steps∧QRow m W vq s.Q∧n≤m
 runs:W.ownsRow n 164 3 vr A.length (runCells A)
 offs:∀x∈A,W.ownsRow n 3 1 x.2 x.1.offs.length (intCells x.1.offs)
 map:A.map Prod.fst=s.R
def EngEnd (r:List UInt8)(L:Nat)(v:Value)(b:Nat)(w:World)(e:Ending)(w':World):Prop:=
 But b w w' ∧
  match Fr.rdState r with
  | some (s,r')=>∃eb vs vq vr A,e=.returned (.pointer (some ⟨eb,0,none⟩))∧RdAt w' b v (L - r'.length)∧r'.length≤L∧EngNew w.heap.size w' eb s vs vq vr A
  | none=>BytesPanic e
theorem Keep.but {D:Nat→Prop}{b:Nat}{w w':World}(h:Keep D w w')(hD:∀k,k < w.heap.size→D k→k=b):But b w w':=⟨h.os,h.tape,h.output,h.size,fun k hk hn=>h.block k hk (fun hd=>hn (by rw[hD k hk hd]))⟩
theorem But.after {D:Nat→Prop}{b:Nat}{w w1 w2:World}(h:But b w w1)(h':Keep D w1 w2)(hD:∀k,k < w.heap.size→D k→k=b):But b w w2:=
 Keep.but (D:=fun k=>k=b) (Keep.after (E:=D) (But.keep h rfl) h' hD) (fun _ _ e=>e)
theorem Fr.rdEvs_len {steps:List (Int × Bool)}{nx:Nat}{wm:Int}:∀(k:Nat) (acc A:List En.Ev) (l r:List UInt8),Fr.rdEvs steps nx wm k acc l=some (A,r)→A.length=acc.length+k:=by
 intro k
 induction k with
 | zero=>
  intro acc A l r h
  simp only[Fr.rdEvs,Option.some.injEq,Prod.mk.injEq] at h
  rw[h.1]
  rfl
 | succ k ih=>
  intro acc A l r h
  rw[Fr.rdEvs] at h
  split at h
  ·cases h
  ·split at h
   ·cases h
   ·split at h
    ·have:=ih _ _ _ _ h
     rw[List.length_append,List.length_singleton] at this
     omega
    ·cases h
theorem Fr.rdWait_len {steps:List (Int × Bool)}{nx:Nat}{wm:Int}{A:List En.Ev}{l r:List UInt8}(h:Fr.rdWait steps nx wm l=some (A,r)):A.length≤12:=by
 unfold Fr.rdWait at h
 split at h
 ·cases h
 ·rename_i n r1 h1
  have:=Fr.rdEvs_len _ _ _ _ _ h
  have:=(Fr.rdB_some h1).2
  simp only[List.length_nil] at *
  omega
theorem Fr.rdPat_some {l r:List UInt8}{st:List (Int × Bool)}{win:Int}(h:Fr.rdPat l=some ((st,win),r)):∃t,Fr.rdT l=some (t,r)∧t.length≤60∧Pl.parse ⟨t.toArray⟩=some (st,win)∧Pl.text st win=t:=by
 unfold Fr.rdPat at h
 split at h
 ·cases h
 ·rename_i t r1 h1
  split at h
  ·cases h
  ·rename_i h2
   split at h
   ·cases h
   ·rename_i st' win' h3
    split at h
    ·rename_i h4
     simp only[Option.some.injEq,Prod.mk.injEq] at h
     obtain⟨⟨rfl,rfl⟩,rfl⟩:=h
     exact⟨t,h1,by omega,h3,h4⟩
    ·cases h
structure Eg (F:Nat→Prop)(v:Value)(l:List UInt8)(b:Nat)(w W:World)(r:List UInt8)(x0 x1 x2 x3:Value):Prop where
 eng:W.heap[w.heap.size]?=some (.cells #[x0,x1,x2,x3,.slice none 0 0,.slice none 0 0] 159 (0,0))
 rd:RdAt W b v (l.length - r.length)
 le:Fr.Left l r
 bytes:BytesAt F W v l
 but:But b w W
theorem Eg.on {F:Nat→Prop}{v:Value}{l r r':List UInt8}{b:Nat}{w W W':World}{x0 x1 x2 x3:Value}(h:Eg F v l b w W r x0 x1 x2 x3)(hF:¬ F b)(hlt:b < w.heap.size)(hb:But b W W')(hr:RdAt W' b v (l.length - r'.length))(hle:Fr.Left l r'):Eg F v l b w W' r' x0 x1 x2 x3:=
 ⟨(hb.block _ (lt_of_block h.eng) (by simp;omega)).trans h.eng,hr,hle,h.bytes.but hb hF,h.but.trans hb⟩
theorem Eg.put {F:Nat→Prop}{v:Value}{l r:List UInt8}{b:Nat}{w W:World}{x0 x1 x2 x3 y0 y1 y2 y3:Value}(h:Eg F v l b w W r x0 x1 x2 x3)(hF:∀c,F c→c < w.heap.size)(hlt:b < w.heap.size)(i:Nat)(u:Value)(he:(W.setCell ⟨w.heap.size,i,none⟩ u).heap[w.heap.size]?=some (.cells #[y0,y1,y2,y3,.slice none 0 0,.slice none 0 0] 159 (0,0))):Eg F v l b w (W.setCell ⟨w.heap.size,i,none⟩ u) r y0 y1 y2 y3:=
 ⟨he,h.rd.setNe _ _ (by omega),h.le,h.bytes.but (but_set W w.heap.size i u) (fun hc=>by have:=hF _ hc;omega),h.but.setNew i u (Nat.le_refl _)⟩
theorem readEngine_any (F:Nat→Prop)(a:Addr)(cap:Nat)(l r:List UInt8)(b:Nat)(w:World)(hr:RdAt w b (.slice (some a) l.length cap) (l.length - r.length))(hv:BytesAt F w (.slice (some a) l.length cap) l)(hF:¬ F b)(hfl:∀c,F c→c < w.heap.size)(hle:Fr.Left l r)(hl:l.length≤1000000)(hL:∀W,But b w W→Letters W)(hT:∀W,But b w W→Pow10 W) :
  Calls Tryz.prog 62 #[.pointer (some ⟨b,0,none⟩)] w (EngEnd r l.length (.slice (some a) l.length cap) b w):=by
 have hltB:b < w.heap.size:=lt_of_block hr
 have hal:Below w.heap.size w (w.alloc (.cells #[.slice none 0 0,.int .i64 0,.int .i64 0,.int .i64 0,.slice none 0 0,.slice none 0 0] 159)):=(Below.refl _ _).alloc (Nat.le_refl _) _
 have K0:Hid (Eg F (.slice (some a) l.length cap) l b w (w.alloc (.cells #[.slice none 0 0,.int .i64 0,.int .i64 0,.int .i64 0,.slice none 0 0,.slice none 0 0] 159)) r (.slice none 0 0) (.int .i64 0) (.int .i64 0) (.int .i64 0)):=⟨heap_alloc_new w _,hr.below hal,hle,hv.below hal,But.ofBelow hal⟩
 have HC:=hid (readPattern_any F a cap l r b _ K0.out.rd K0.out.bytes hF hle hl (fun W h=>hL W (K0.out.but.trans h)) (fun W h=>hT W (K0.out.but.trans h)))
 have HF:=hid hfl
 clear hr hv hle hal hL hT hfl
 go_enter Tryz.func62,Tryz.ntmps62
 go_wp2_with (go_at_call 114;fail)
 refine HC.out.mono ?_
 rintro e w1 ⟨hb1,he⟩
 clear HC
 cases x1:Fr.rdPat r with
 | none=>
  rw[x1] at he
  obtain⟨n1,s1,rfl⟩:=he
  have HE:Hid (Fr.rdState r=none):=by show _=_;unfold Fr.rdState;rw[x1]
  have HB:=hid (K0.out.but.trans hb1)
  clear hb1 x1
  go_wp2
  refine⟨rfl,HB.out,?_⟩
  rw[HE.out]
  exact⟨_,_,rfl⟩
 | some q1=>
  obtain⟨⟨st,win⟩,r1⟩:=q1
  rw[x1] at he
  obtain⟨ao,ca,rfl,hr1,hst⟩:=he
  obtain⟨tx,t1,t2,t3,t4⟩:=Fr.rdPat_some x1
  have hf:Pl.Fine st win:=Pl.fine_parse t3
  have K1:=hid (K0.out.on hF hltB hb1 hr1 (K0.out.le.rdT t1))
  have hsz1:w.heap.size < w1.heap.size:=lt_of_block K1.out.eng
  have HS1:Hid (StepsAt (fun x=>w.heap.size+1≤x∧x < w1.heap.size) w1 (.slice ao st.length ca) st):=RowAt.mono hst (fun x h1 h2=>⟨by simpa using h2,h1⟩)
  have X1:=hid x1
  have HFN:=hid hf
  have hl4:=hf.l4
  clear hb1 hr1 x1 t1 t2 t3 t4 hst hf K0
  obtain⟨c0,c1,c2,c3,c4,c5,cf⟩:=eng_cells K1.out.eng
  go_wp2_with (go_at_call 115;fail)
  have K2:=hid ((K1.out.put HF.out hltB 0 (.slice ao st.length ca) (eng_set0 K1.out.eng _).1).put HF.out hltB 1 (.int .i64 win) (eng_set0 (eng_set0 K1.out.eng _).1 _).2.1)
  have HS2:Hid (StepsAt (fun x=>w.heap.size+1≤x∧x < w1.heap.size) ((w1.setCell ⟨w.heap.size,0,none⟩ (.slice ao st.length ca)).setCell ⟨w.heap.size,1,none⟩ (.int .i64 win)) (.slice ao st.length ca) st):=RowAt.but (RowAt.but HS1.out (but_set _ _ _ _) (by omega)) (but_set _ _ _ _) (by omega)
  have hsz2:((w1.setCell ⟨w.heap.size,0,none⟩ (.slice ao st.length ca)).setCell ⟨w.heap.size,1,none⟩ (.int .i64 win)).heap.size=w1.heap.size:=by simp
  generalize (w1.setCell ⟨w.heap.size,0,none⟩ (.slice ao st.length ca)).setCell ⟨w.heap.size,1,none⟩ (.int .i64 win)=W2 at *
  clear c0 c1 c2 c3 c4 c5 cf K1 HS1
  refine (fMoment_left F _ l r1 b W2 K2.out.rd K2.out.bytes hF K2.out.le hl).mono ?_
  rintro e w3 ⟨hb,he⟩
  cases x2:Fr.rdM r1 with
  | none=>
   rw[x2] at he
   obtain⟨n1,s1,rfl⟩:=he
   have HE:Hid (Fr.rdState r=none):=by show _=_;unfold Fr.rdState;rw[X1.out];simp only[];rw[x2]
   have HB:=hid (K2.out.but.trans hb)
   clear hb x2
   go_wp2
   refine⟨rfl,HB.out,?_⟩
   rw[HE.out]
   exact⟨_,_,rfl⟩
  | some q2=>
   obtain⟨t,r2⟩:=q2
   rw[x2] at he
   obtain⟨rfl,hr2⟩:=he
   obtain⟨m2,hm2,-⟩:=Fr.rdM_some x2
   have X2:=hid x2
   have K3:=hid (K2.out.on hF hltB hb hr2 (K2.out.le.rd hm2))
   have HS3:Hid (StepsAt (fun x=>w.heap.size+1≤x∧x < w1.heap.size) w3 (.slice ao st.length ca) st):=RowAt.but HS2.out hb (by omega)
   have hsz3:w1.heap.size≤w3.heap.size:=by have:=hb.size;omega
   clear hb hr2 x2 hm2 K2 HS2
   obtain⟨c0,c1,c2,c3,c4,c5,cf⟩:=eng_cells K3.out.eng
   go_wp2_with (go_at_call 116;fail)
   have K4:=hid (K3.out.put HF.out hltB 2 (.int .i64 t) (eng_set0 K3.out.eng _).2.2.1)
   have HS4:Hid (StepsAt (fun x=>w.heap.size+1≤x∧x < w1.heap.size) (w3.setCell ⟨w.heap.size,2,none⟩ (.int .i64 t)) (.slice ao st.length ca) st):=RowAt.but HS3.out (but_set _ _ _ _) (by omega)
   have hsz4:w1.heap.size≤(w3.setCell ⟨w.heap.size,2,none⟩ (.int .i64 t)).heap.size:=by simpa using hsz3
   generalize w3.setCell ⟨w.heap.size,2,none⟩ (.int .i64 t)=W4 at *
   clear c0 c1 c2 c3 c4 c5 cf K3 HS3
   refine (fBelow_left F _ l r2 b 9007199254740992 _ W4 K4.out.rd K4.out.bytes hF K4.out.le hl (by omega)).mono ?_
   rintro e w5 ⟨hb,he⟩
   cases x3:Fr.rdB 9007199254740992 r2 with
   | none=>
    rw[x3] at he
    obtain⟨n1,s1,rfl⟩:=he
    have HE:Hid (Fr.rdState r=none):=by show _=_;unfold Fr.rdState;rw[X1.out];simp only[];rw[X2.out];simp only[];rw[x3]
    have HB:=hid (K4.out.but.trans hb)
    clear hb x3
    go_wp2
    refine⟨rfl,HB.out,?_⟩
    rw[HE.out]
    exact⟨_,_,rfl⟩
   | some q3=>
    obtain⟨nx,r3⟩:=q3
    rw[x3] at he
    obtain⟨rfl,hr3⟩:=he
    have y3:=Fr.rdB_some x3
    have X3:=hid x3
    have hnx:=y3.2
    have K5:=hid (K4.out.on hF hltB hb hr3 (K4.out.le.rd y3.1))
    have HS5:Hid (StepsAt (fun x=>w.heap.size+1≤x∧x < w1.heap.size) w5 (.slice ao st.length ca) st):=RowAt.but HS4.out hb (by omega)
    have hsz5:w1.heap.size≤w5.heap.size:=by have:=hb.size;omega
    clear hb hr3 x3 y3 K4 HS4
    obtain⟨c0,c1,c2,c3,c4,c5,cf⟩:=eng_cells K5.out.eng
    go_wp2_with (go_at_call 117;fail)
    have K6:=hid (K5.out.put HF.out hltB 3 (.int .i64 nx) (eng_set0 K5.out.eng _).2.2.2)
    have HS6:Hid (StepsAt (fun x=>w.heap.size+1≤x∧x < w1.heap.size) (w5.setCell ⟨w.heap.size,3,none⟩ (.int .i64 nx)) (.slice ao st.length ca) st):=RowAt.but HS5.out (but_set _ _ _ _) (by omega)
    have hsz6:w1.heap.size≤(w5.setCell ⟨w.heap.size,3,none⟩ (.int .i64 nx)).heap.size:=by simpa using hsz5
    generalize w5.setCell ⟨w.heap.size,3,none⟩ (.int .i64 nx)=W6 at *
    clear c0 c1 c2 c3 c4 c5 cf K5 HS5
    have E6:LdEnv F (fun x=>w.heap.size+1≤x∧x < w1.heap.size) b w.heap.size W6:=⟨hF,by omega,fun h=>by have:=HF.out _ h;omega,by omega,by omega,fun c h=>by have:=HF.out c h;omega,fun c h=>by omega⟩
    refine (readWaiting_any F _ _ (.slice ao st.length ca) (.slice none 0 0) l r3 st b w.heap.size nx win t W6 E6 K6.out.rd K6.out.le K6.out.bytes hl (by omega) K6.out.eng HS6.out (by omega)).mono ?_
    rintro e w7 ⟨hk,he⟩
    cases x4:Fr.rdWait st nx t r3 with
    | none=>
     rw[x4] at he
     obtain⟨n1,s1,rfl⟩:=he
     have HE:Hid (Fr.rdState r=none):=by show _=_;unfold Fr.rdState;rw[X1.out];simp only[];rw[X2.out];simp only[];rw[X3.out];simp only[];rw[x4]
     have HB:=hid (But.after K6.out.but hk (fun k h1 h2=>by rcases h2 with h2 | h2<;>omega))
     clear hk x4
     go_wp2
     refine⟨rfl,HB.out,?_⟩
     rw[HE.out]
     exact⟨_,_,rfl⟩
    | some q4=>
     obtain⟨Q,r4⟩:=q4
     rw[x4] at he
     obtain⟨rfl,vq,K7⟩:=he
     have hQ:=Fr.rdWait_len x4
     have X4:=hid x4
     have K7:=hid K7
     clear x4 hk
     go_wp2_with (go_at_call 118;fail)
     have hw7:=K7.out.keep.size
     have O:RcP.Ok { F:=F,S:=fun x=>w.heap.size+1≤x∧x < w1.heap.size,G:=fun x=>W6.heap.size≤x∧x < w7.heap.size,v:=.slice (some a) l.length cap,vs:=.slice ao st.length ca,vq:=vq,vr:=.slice none 0 0,l:=l,steps:=st,Q:=Q,b:=b,eb:=w.heap.size,nx:=nx,win:=win,wm:=t,w:=w7 }:=
      ⟨hF,by show ¬ (_∧_);dsimp only;omega,by show ¬ (_∧_);dsimp only;omega,fun h=>by have:=HF.out _ h;dsimp only at this;omega,by show ¬ (_∧_);dsimp only;omega,by show ¬ (_∧_);dsimp only;omega,by show w.heap.size≠b;omega,fun c h=>by have:=HF.out c h;show c < w7.heap.size;omega,fun c h=>by show c < w7.heap.size;have:_∧c < w1.heap.size:=h;omega,fun c h=>h.2,by show b < w7.heap.size;omega,by show w.heap.size < w7.heap.size;omega,hl,by show nx < _;omega,by show st.length≤_;omega,by show Q.length≤_;omega,HFN.out.w0,HFN.out.w9⟩
     have hev:EvsAt (fun x=>W6.heap.size≤x∧x < w7.heap.size) w7 vq Q:=RowAt.mono K7.out.row.evs (fun x h1 h2=>⟨h2,h1⟩)
     refine (readRuns_any _ O rfl r4 K7.out.rd K7.out.le K7.out.bytes K7.out.eng K7.out.st hev).mono ?_
     rintro e w8 ⟨hk,he⟩
     dsimp only at hk he
     clear O hev
     have HB:=hid (But.after (But.after K6.out.but K7.out.keep (fun k h1 h2=>by rcases h2 with h2 | h2<;>omega)) hk (fun k h1 h2=>by rcases h2 with h2 | h2<;>omega))
     cases x5:Fr.rdRuns st win nx t Q r4 with
     | none=>
      rw[x5] at he
      obtain⟨n1,s1,rfl⟩:=he
      have HE:Hid (Fr.rdState r=none):=by show _=_;unfold Fr.rdState;rw[X1.out];simp only[];rw[X2.out];simp only[];rw[X3.out];simp only[];rw[X4.out];simp only[];rw[x5]
      clear hk x5
      go_wp2
      refine⟨rfl,HB.out,?_⟩
      rw[HE.out]
      exact⟨_,_,rfl⟩
     | some q5=>
      obtain⟨A,r5⟩:=q5
      rw[x5] at he
      obtain⟨rfl,vr,acc,ob,hmap,K8⟩:=he
      have HE:Hid (Fr.rdState r=some (⟨st,win,t,nx,Q,A⟩,r5)):=by show _=_;unfold Fr.rdState;rw[X1.out];simp only[];rw[X2.out];simp only[];rw[X3.out];simp only[];rw[X4.out];simp only[];rw[x5]
      have HN:Hid (EngNew w.heap.size w8 w.heap.size ⟨st,win,t,nx,Q,A⟩ (.slice ao st.length ca) vq vr acc):=by
       refine⟨K8.eng,Nat.le_refl _,⟨W6.heap.size,RowAt.mono K8.st (fun x _ h=>?_),own_keep K7.out.row hk (fun k h1 h2=>by rcases h2 with h2 | h2<;>omega),by omega⟩,own_mono K8.row (by show w.heap.size≤w7.heap.size;omega),fun x hx=>own_mono (K8.offs x hx) (by show w.heap.size≤w7.heap.size;omega),hmap⟩
       have h':w.heap.size+1≤x∧x < w1.heap.size:=h
       omega
      have HR:=hid (And.intro K8.rd K8.le.2)
      clear hk x5 K8 hmap
      go_wp2
      go_ret
      refine⟨HB.out,?_⟩
      rw[HE.out]
      exact⟨_,_,_,_,_,rfl,HR.out.1,HR.out.2,HN.out⟩
theorem EngNew.more {n n':Nat}{W:World}{eb:Nat}{s:Fr.Stt}{vs vq vr:Value}{A:List RV}(h:EngNew n W eb s vs vq vr A)(hn:n'≤n):EngNew n' W eb s vs vq vr A:=by
 obtain⟨m,h1,h2,h3⟩:=h.row
 have hg:=h.ge
 exact⟨h.blk,by omega,⟨m,RowAt.mono h1 (fun b _ hb=>⟨by omega,hb.2⟩),h2,by omega⟩,own_mono h.runs hn,fun x hx=>own_mono (h.offs x hx) hn,h.map⟩
theorem EngNew.keep {n:Nat}{W W':World}{eb:Nat}{s:Fr.Stt}{vs vq vr:Value}{A:List RV}{D:Nat→Prop}(h:EngNew n W eb s vs vq vr A)(hk:Keep D W W')(hD:∀k,n≤k→¬ D k):EngNew n W' eb s vs vq vr A:=by
 obtain⟨m,h1,h2,h3⟩:=h.row
 exact⟨(hk.block _ (lt_of_block h.blk) (hD _ h.ge)).trans h.blk,h.ge,⟨m,RowAt.keep h1 hk (fun i _ hi=>hD i hi.1),own_keep h2 hk (fun k hk=>hD k (by omega)),h3⟩,own_keep h.runs hk hD,fun x hx=>own_keep (h.offs x hx) hk hD,h.map⟩
theorem but_below {b B:Nat}{w w':World}(h:But b w w')(hb:B≤b)(hw:B≤w.heap.size):Below B w w':=⟨h.os,h.tape,h.output,h.size,fun i hi=>h.block i (by omega) (by intro e;cases e;omega)⟩
theorem bytes_some {F:Nat→Prop}{w:World}{v:Value}{l:List UInt8}(h:BytesAt F w v l)(hp:0 < l.length):∃a cap,v=.slice (some a) l.length cap:=by
 rcases h.2 with ⟨-,h0⟩ | ⟨b,o,cap,rfl,-⟩
 ·omega
 ·exact⟨_,_,rfl⟩
theorem readEngine_in (l:List UInt8)(w:World)(hl:l.length≤1000000)(h5:5≤l.length)(hL:Letters w)(hT:Pow10 w) :
  ∀(W:World) (v':Value),Below (w.heap.size+1) (w.alloc (.cells #[.nilIface] 69)) W→RdAt W (w.heap.size+1) v' 1→BytesAt (fun g=>g < w.heap.size) W v' (l.take (l.length - 4)) →
   Calls Tryz.prog 62 #[.pointer (some ⟨w.heap.size+1,0,none⟩)] W (EngEnd ((l.take (l.length - 4)).drop 1) (l.length - 4) v' (w.heap.size+1) W):=by
 intro W v' hb hr hv'
 have hlen:(l.take (l.length - 4)).length=l.length - 4:=by rw[List.length_take];omega
 obtain⟨a,cap,rfl⟩:=bytes_some hv' (by omega)
 have hbw:Below w.heap.size w W:=((Below.refl _ w).alloc (Nat.le_refl _) _).trans (hb.mono (by simp))
 have hsz:w.heap.size+1 < W.heap.size:=lt_of_block hr
 have hlt:((l.take (l.length - 4)).drop 1).length=l.length - 5:=by rw[List.length_drop,hlen];omega
 have key:=readEngine_any (fun g=>g < w.heap.size) a cap (l.take (l.length - 4)) ((l.take (l.length - 4)).drop 1) (w.heap.size+1) W (by rw[hlt,hlen,show l.length - 4 - (l.length - 5)=1 by omega];rw[hlen] at hr;exact hr) hv' (by omega) (fun c hc=>by omega) (Fr.Left.of_drop _ 1) (by omega)
  (fun W2 h2 c W3 a1 a2 a3=>hL c W3 a1 a2 ((hbw.trans (but_below h2 (by omega) hbw.size)).trans (a3.mono (by have:=h2.size;have:=hbw.size;omega)))) (fun W2 h2=>hT.below (hbw.trans (but_below h2 (by omega) hbw.size)))
 rw[hlen] at key
 rw[hlen]
 exact key
theorem eLoad_ok (v:Value)(l c:List UInt8)(s:Fr.Stt)(w:World)(hv:BytesAt (fun g=>g < w.heap.size) w v l)(hl:l.length≤1000000)(hs:Fr.sound l 83=some c)(h5:5≤l.length)(hst:Fr.rdState ((l.take (l.length - 4)).drop 1)=some (s,[]))(hL:Letters w)(hT:Pow10 w) :
  Calls Tryz.prog 32 #[v] w fun e w'=>∃eb vs vq vr A,e=.returned (.tuple #[.pointer (some ⟨eb,0,none⟩),.nilIface])∧EngNew (w.heap.size+2) w' eb s vs vq vr A∧Below w.heap.size w w':=by
 obtain⟨ao,cap,rfl,-,-⟩:=RowAt.slice hv
 have HC:=hid (readE_ok (fun g=>g < w.heap.size) (.slice ao l.length cap) l c 83 w hv hl hs (fun r w2=>∃eb vs vq vr A,r=.pointer (some ⟨eb,0,none⟩)∧EngNew (w.heap.size+2) w2 eb s vs vq vr A) (fun W v' h1 h2 h3=>(readEngine_in l w hl h5 hL hT W v' h1 h2 h3).mono fun e w' h=>by
  obtain⟨k1,k2⟩:=h
  rw[hst] at k2
  obtain⟨eb,vs,vq,vr,A,rfl,k3,-,k4⟩:=k2
  have hz:w.heap.size+1 < W.heap.size:=lt_of_block h2
  exact⟨_,rfl,by simpa using k3,but_below k1 (by omega) (by omega),eb,vs,vq,vr,A,rfl,k4.more (by omega)⟩))
 clear hv hl hs hst hL hT
 go_enter Tryz.func32,Tryz.ntmps32
 go_wp2_with (go_at_call 61;fail)
 refine HC.out.mono ?_
 rintro e w1 ⟨r,w2,q,rfl,hw,⟨eb,vs,vq,vr,A,rfl,he⟩,hb⟩
 have H1:Hid (EngNew (w.heap.size+2) w1 eb s vs vq vr A∧Below w.heap.size w w1):=by
  have hk:Keep (fun k=>k=w.heap.size) w2 w1:=by
   rw[hw]
   exact ((Keep.refl _ _).drewR q).trans ((but_set _ w.heap.size 0 _).keep rfl)
  refine⟨he.keep hk (fun k h e=>by omega),⟨hk.os.trans hb.os,hk.tape.trans hb.tape,hk.output.trans hb.output,Nat.le_trans hb.size hk.size,fun k h=>(hk.block k (by have:=hb.size;omega) (by omega)).trans (hb.block k h)⟩⟩
 clear he hb hw HC
 go_wp2
 go_ret2
 exact⟨eb,vs,vq,vr,A,rfl,H1.out.1,H1.out.2⟩
theorem sLoad_ok (v:Value)(l c:List UInt8)(s:Fr.Stt)(w:World)(hv:BytesAt (fun g=>g < w.heap.size) w v l)(hl:l.length≤1000000)(hs:Fr.sound l 83=some c)(h5:5≤l.length)(hst:Fr.rdState ((l.take (l.length - 4)).drop 1)=some (s,[]))(hL:Letters w)(hT:Pow10 w) :
  Calls Tryz.prog 11 #[v] w fun e w'=>∃w1 eb vs vq vr A,e=.returned (.tuple #[.pointer (some ⟨w1.heap.size,0,none⟩),.int .i64 0])∧w'=w1.alloc (.cells #[.pointer (some ⟨eb,0,none⟩)] 74)∧EngNew (w.heap.size+2) w1 eb s vs vq vr A∧Below w.heap.size w w1:=by
 have HC:=hid (eLoad_ok v l c s w hv hl hs h5 hst hL hT)
 obtain⟨ao,cap,rfl,-,-⟩:=RowAt.slice hv
 clear hv hl hs hst hL hT
 go_enter Tryz.func11,Tryz.ntmps11
 go_wp2_with (go_at_call 32;fail)
 refine HC.out.mono ?_
 rintro e w1 ⟨eb,vs,vq,vr,A,rfl,he,hb⟩
 have H1:=hid (And.intro he hb)
 clear he hb HC
 go_wp2
 go_ret2
 exact⟨w1,eb,vs,vq,vr,A,rfl,rfl,H1.out.1,H1.out.2⟩
end Go.Proofs.YtfldcmdhneegmaaGreatDoor

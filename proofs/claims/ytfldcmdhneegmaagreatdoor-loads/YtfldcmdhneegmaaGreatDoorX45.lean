import Derived.Test.YtfldcmdhneegmaaGreatDoorX42
import Derived.Test.YtfldcmdhneegmaaGreatDoorX43
import Derived.Test.YtfldcmdhneegmaaGreatDoorX44
import Derived.Test.YtfldcmdhneegmaaGreatDoorX28
set_option maxHeartbeats 4000000
set_option maxRecDepth 1000000
namespace Go.Proofs.YtfldcmdhneegmaaGreatDoor
open Go.RowKit Go.Lib
theorem own_keepT {D:Nat→Prop}{w w1:World}{base:Nat}{e:TypeId}{size:Nat}{v:Value}{n:Nat}{xs:List Value}(h:w.ownsRow base e size v n xs)(hb:Keep D w w1)(hD:∀k c fz,w.heap[k]?=some (.cells c e fz)→¬ D k):w1.ownsRow base e size v n xs:=by
 refine⟨h.1,?_⟩
 rcases h.2 with h0 | ⟨g,cap,cur,hv,hb1,hg,rest⟩
 ·exact Or.inl h0
 ·exact Or.inr ⟨g,cap,cur,hv,hb1,(hb.block g (lt_of_block hg) (hD g _ _ hg)).trans hg,rest⟩
structure DL (w W:World)(rb eb pb:Nat)(P:En.Pat)(wm nx:Int)(vs vw vo:Value)(Q:List En.Ev)(old:List RV)(r:List UInt8)(x:Bool):Prop where
 rd:RdrAt W rb r x
 blk:W.heap[eb]?=some (.cells #[.pointer (some ⟨pb,0,none⟩),.int .i64 wm,.int .i64 nx,vw,.slice none 0 0,vo] 86 (0,0))
 pat:W.heap[pb]?=some (.cells #[vs,.int .i64 P.win] 99 (0,0))
 steps:W.ownsRow w.heap.size 104 2 vs P.steps.length (stepRow P.steps)
 wait:W.ownsRow w.heap.size 89 3 vw Q.length (evCells Q)
 row:W.ownsRow w.heap.size 92 3 vo old.length (runCells old)
 offs:∀y∈old,W.ownsRow w.heap.size 3 1 y.2 y.1.offs.length (intCells y.1.offs)
 bel:Below w.heap.size w W
 nr:w.heap.size≤rb
 ne:w.heap.size≤eb
section
variable {w W W':World} {rb eb pb:Nat} {P:En.Pat} {wm nx wm' nx':Int} {vs vw vo vw' vo':Value} {Q Q':List En.Ev} {old old':List RV} {r r':List UInt8} {x x':Bool}
theorem DL.turn (h:DL w W rb eb pb P wm nx vs vw vo Q old r x){D:Nat→Prop}(hk:Keep D W W')(hD:∀k,k < W.heap.size→D k→k=rb∨k=eb∨vw.ownBlock=some k∨vo.ownBlock=some k)
  (rd':RdrAt W' rb r' x') (blk':W'.heap[eb]?=some (.cells #[.pointer (some ⟨pb,0,none⟩),.int .i64 wm',.int .i64 nx',vw',.slice none 0 0,vo'] 86 (0,0)))
  (wait':W'.ownsRow w.heap.size 89 3 vw' Q'.length (evCells Q')) (row':W'.ownsRow w.heap.size 92 3 vo' old'.length (runCells old'))
  (offs':∀y∈old',y∈old∨W'.ownsRow w.heap.size 3 1 y.2 y.1.offs.length (intCells y.1.offs)):DL w W' rb eb pb P wm' nx' vs vw' vo' Q' old' r' x':=by
 have hr:=h.rd
 unfold RdrAt at hr
 have hty:∀k c t fz,W.heap[k]?=some (.cells c t fz)→D k→t=79∨t=86∨t=89∨t=92:=by
  intro k c t fz h1 h2
  rcases hD k (lt_of_block h1) h2 with rfl | rfl | h3 | h3
  ·rw[hr] at h1;cases h1;exact Or.inl rfl
  ·rw[h.blk] at h1;cases h1;exact Or.inr (Or.inl rfl)
  ·obtain⟨-,c',fz',h4⟩:=own_block h.wait k h3
   rw[h1] at h4;cases h4;exact Or.inr (Or.inr (Or.inl rfl))
  ·obtain⟨-,c',fz',h4⟩:=own_block h.row k h3
   rw[h1] at h4;cases h4;exact Or.inr (Or.inr (Or.inr rfl))
 refine⟨rd',blk',?_,?_,wait',row',fun y hy=>?_,?_,h.nr,h.ne⟩
 ·refine (hk.block pb (lt_of_block h.pat) (fun e=>?_)).trans h.pat
  have:=hty _ _ _ _ h.pat e
  revert this
  decide
 ·refine own_keepT h.steps hk (fun k c fz h1 e=>?_)
  have:=hty _ _ _ _ h1 e
  revert this
  decide
 ·rcases offs' y hy with h1 | h1
  ·refine own_keepT (h.offs y h1) hk (fun k c fz h1 e=>?_)
   have:=hty _ _ _ _ h1 e
   revert this
   decide
  ·exact h1
 ·refine⟨hk.os.trans h.bel.os,hk.tape.trans h.bel.tape,hk.output.trans h.bel.output,Nat.le_trans h.bel.size hk.size,fun k h1=>(hk.block k (Nat.lt_of_lt_of_le h1 h.bel.size) (fun e=>?_)).trans (h.bel.block k h1)⟩
  rcases hD k (Nat.lt_of_lt_of_le h1 h.bel.size) e with rfl | rfl | h3 | h3
  ·exact absurd h.nr (by omega)
  ·exact absurd h.ne (by omega)
  ·exact absurd (own_block h.wait k h3).1 (by omega)
  ·exact absurd (own_block h.row k h3).1 (by omega)
theorem DL.rne (h:DL w W rb eb pb P wm nx vs vw vo Q old r x):rb≠eb:=by
 rintro rfl
 have h1:=h.rd
 unfold RdrAt at h1
 rw[h.blk] at h1
 cases h1
theorem DL.wr (h:DL w W rb eb pb P wm nx vs vw vo Q old r x):vw.ownBlock≠some rb∧vw.ownBlock≠some eb:=by
 constructor
 ·intro e
  obtain⟨-,c,fz,h1⟩:=own_block h.wait _ e
  have h2:=h.rd
  unfold RdrAt at h2
  rw[h1] at h2
  cases h2
 ·intro e
  obtain⟨-,c,fz,h1⟩:=own_block h.wait _ e
  rw[h.blk] at h1
  cases h1
theorem DL.ro (h:DL w W rb eb pb P wm nx vs vw vo Q old r x):vo.ownBlock≠some rb∧vo.ownBlock≠some eb:=by
 constructor
 ·intro e
  obtain⟨-,c,fz,h1⟩:=own_block h.row _ e
  have h2:=h.rd
  unfold RdrAt at h2
  rw[h1] at h2
  cases h2
 ·intro e
  obtain⟨-,c,fz,h1⟩:=own_block h.row _ e
  rw[h.blk] at h1
  cases h1
theorem DL.on (h:DL w W rb eb pb P wm nx vs vw vo Q old r x)(hk:But rb W W')(hr:RdrAt W' rb r' x'):DL w W' rb eb pb P wm nx vs vw vo Q old r' x':=by
 have hr0:=h.rd
 unfold RdrAt at hr0
 refine h.turn (hk.keep (D:=fun k=>k=rb) rfl) (fun k _ e=>Or.inl e) hr ((hk.block eb (lt_of_block h.blk) (by simpa using h.rne.symm)).trans h.blk) (own_keepT h.wait (hk.keep (D:=fun k=>k=rb) rfl) (fun k c fz h1 e=>?_)) (own_keepT h.row (hk.keep (D:=fun k=>k=rb) rfl) (fun k c fz h1 e=>?_)) (fun y hy=>Or.inl hy)
 ·subst e
  rw[hr0] at h1
  cases h1
 ·subst e
  rw[hr0] at h1
  cases h1
theorem DL.below (h:DL w W rb eb pb P wm nx vs vw vo Q old r x)(hb:Below W.heap.size W W'):DL w W' rb eb pb P wm nx vs vw vo Q old r x:=
 h.on (But.ofBelow hb) ((hb.block rb (lt_of_block h.rd)).trans h.rd)
theorem DL.bad (h:DL w W rb eb pb P wm nx vs vw vo Q old r x)(y:Bool):DL w (W.setCell ⟨rb,1,none⟩ (.bool y)) rb eb pb P wm nx vs vw vo Q old r y:=
 h.on (but_set W rb 1 _) (blk_setF h.rd _).2
theorem DL.text (h:DL w W rb eb pb P wm nx vs vw vo Q old r x)(s:ByteArray)(hs:s=⟨r'.toArray⟩):DL w (W.setCell ⟨rb,0,none⟩ (.string s)) rb eb pb P wm nx vs vw vo Q old r' x:=by
 subst hs
 exact h.on (but_set W rb 0 _) (blk_setF h.rd _).1
theorem DL.eng (h:DL w W rb eb pb P wm nx vs vw vo Q old r x)(i:Nat)(u:Value)(hb:(W.setCell ⟨eb,i,none⟩ u).heap[eb]?=some (.cells #[.pointer (some ⟨pb,0,none⟩),.int .i64 wm',.int .i64 nx',vw,.slice none 0 0,vo] 86 (0,0))):DL w (W.setCell ⟨eb,i,none⟩ u) rb eb pb P wm' nx' vs vw vo Q old r x:=by
 have hk:=but_set W eb i u
 refine h.turn (hk.keep (D:=fun k=>k=eb) rfl) (fun k _ e=>Or.inr (Or.inl e)) ((hk.block rb (lt_of_block h.rd) (by simpa using h.rne)).trans h.rd) hb (own_keepT h.wait (hk.keep (D:=fun k=>k=eb) rfl) (fun k c fz h1 e=>?_)) (own_keepT h.row (hk.keep (D:=fun k=>k=eb) rfl) (fun k c fz h1 e=>?_)) (fun y hy=>Or.inl hy)
 ·subst e
  rw[h.blk] at h1
  cases h1
 ·subst e
  rw[h.blk] at h1
  cases h1
theorem DL.setW (h:DL w W rb eb pb P wm nx vs vw vo Q old r x)(t:Int):DL w (W.setCell ⟨eb,1,none⟩ (.int .i64 t)) rb eb pb P t nx vs vw vo Q old r x:=h.eng 1 _ (blk6_set h.blk _).1
theorem DL.setN (h:DL w W rb eb pb P wm nx vs vw vo Q old r x)(t:Int):DL w (W.setCell ⟨eb,2,none⟩ (.int .i64 t)) rb eb pb P wm t vs vw vo Q old r x:=h.eng 2 _ (blk6_set h.blk _).2.1
theorem DL.pushE (h:DL w W rb eb pb P wm nx vs vw vo Q old r x){V:World}{y':Value}{e:En.Ev}(hV:Below W.heap.size W V)(gr:V.grownBy W' vw.ownBlock)(ow:W'.ownsRow w.heap.size 89 3 y' (Q.length+1) (evCells Q++[.int .i64 e.off,.int .i32 e.kind,.int .i64 e.time])) :
  W'.cell? ⟨eb,3,none⟩=some vw∧W'.frozen? ⟨eb,3,none⟩=false∧DL w (W'.setCell ⟨eb,3,none⟩ y') rb eb pb P wm nx vs y' vo (Q++[e]) old r x:=by
 have hk1:Keep (fun k=>vw.ownBlock=some k) W W':=⟨gr.os.trans hV.os,gr.tape.trans hV.tape,gr.output.trans hV.output,Nat.le_trans hV.size gr.size,fun k hk hn=>(gr.block k (Nat.lt_of_lt_of_le hk hV.size) (fun e=>hn e.symm)).trans (hV.block k hk)⟩
 have he:W'.heap[eb]?=some (.cells #[.pointer (some ⟨pb,0,none⟩),.int .i64 wm,.int .i64 nx,vw,.slice none 0 0,vo] 86 (0,0)):=(hk1.block eb (lt_of_block h.blk) h.wr.2).trans h.blk
 obtain⟨-,-,-,c3,-,-,cf⟩:=eng_cells he
 have hs:=but_set W' eb 3 y'
 have hk:Keep (fun k=>k=eb∨vw.ownBlock=some k) W (W'.setCell ⟨eb,3,none⟩ y'):=⟨hs.os.trans hk1.os,hs.tape.trans hk1.tape,hs.output.trans hk1.output,Nat.le_trans hk1.size hs.size,fun k h1 h2=>(hs.block k (Nat.lt_of_lt_of_le h1 hk1.size) (by intro e;cases e;exact h2 (Or.inl rfl))).trans (hk1.block k h1 (fun e=>h2 (Or.inr e)))⟩
 refine⟨c3,cf 3,h.turn hk (fun k _ e=>?_) ((hk.block rb (lt_of_block h.rd) (fun e=>?_)).trans h.rd) (blk6_set he _).2.2.1 ?_ (own_keepT h.row hk (fun k c fz h1 e=>?_)) (fun y hy=>Or.inl hy)⟩
 ·rcases e with e | e
  ·exact Or.inr (Or.inl e)
  ·exact Or.inr (Or.inr (Or.inl e))
 ·rcases e with e | e
  ·exact h.rne e
  ·exact h.wr.1 e
 ·have e1:(Q++[e]).length=Q.length+1:=by simp
  have e2:evCells (Q++[e])=evCells Q++[.int .i64 e.off,.int .i32 e.kind,.int .i64 e.time]:=by simp[evCells]
  rw[e1,e2]
  refine own_keepT ow (hs.keep (D:=fun k=>k=eb) rfl) (fun k c fz h1 e=>?_)
  subst e
  rw[he] at h1
  cases h1
 ·rcases e with rfl | e
  ·rw[h.blk] at h1
   cases h1
  ·obtain⟨-,c',fz',h4⟩:=own_block h.wait k e
   rw[h1] at h4
   cases h4
theorem DL.pushR (h:DL w W rb eb pb P wm nx vs vw vo Q old r x){V:World}{y':Value}{u:RV}(hV:Below W.heap.size W V)(gr:V.grownBy W' vo.ownBlock)(hu:W.ownsRow w.heap.size 3 1 u.2 u.1.offs.length (intCells u.1.offs))(ow:W'.ownsRow w.heap.size 92 3 y' (old.length+1) (runCells old++[.int .i64 u.1.step,u.2,.int .i64 u.1.first])) :
  W'.cell? ⟨eb,5,none⟩=some vo∧W'.frozen? ⟨eb,5,none⟩=false∧DL w (W'.setCell ⟨eb,5,none⟩ y') rb eb pb P wm nx vs vw y' Q (old++[u]) r x:=by
 have hk1:Keep (fun k=>vo.ownBlock=some k) W W':=⟨gr.os.trans hV.os,gr.tape.trans hV.tape,gr.output.trans hV.output,Nat.le_trans hV.size gr.size,fun k hk hn=>(gr.block k (Nat.lt_of_lt_of_le hk hV.size) (fun e=>hn e.symm)).trans (hV.block k hk)⟩
 have he:W'.heap[eb]?=some (.cells #[.pointer (some ⟨pb,0,none⟩),.int .i64 wm,.int .i64 nx,vw,.slice none 0 0,vo] 86 (0,0)):=(hk1.block eb (lt_of_block h.blk) h.ro.2).trans h.blk
 obtain⟨-,-,-,-,-,c5,cf⟩:=eng_cells he
 have hs:=but_set W' eb 5 y'
 have hk:Keep (fun k=>k=eb∨vo.ownBlock=some k) W (W'.setCell ⟨eb,5,none⟩ y'):=⟨hs.os.trans hk1.os,hs.tape.trans hk1.tape,hs.output.trans hk1.output,Nat.le_trans hk1.size hs.size,fun k h1 h2=>(hs.block k (Nat.lt_of_lt_of_le h1 hk1.size) (by intro e;cases e;exact h2 (Or.inl rfl))).trans (hk1.block k h1 (fun e=>h2 (Or.inr e)))⟩
 have hno:∀k c t fz,W.heap[k]?=some (.cells c t fz)→(k=eb∨vo.ownBlock=some k)→t=86∨t=92:=by
  intro k c t fz h1 e
  rcases e with rfl | e
  ·rw[h.blk] at h1
   cases h1
   exact Or.inl rfl
  ·obtain⟨-,c',fz',h4⟩:=own_block h.row k e
   rw[h1] at h4
   cases h4
   exact Or.inr rfl
 refine⟨c5,cf 5,h.turn hk (fun k _ e=>?_) ((hk.block rb (lt_of_block h.rd) (fun e=>?_)).trans h.rd) (blk6_set he _).2.2.2.2 (own_keepT h.wait hk (fun k c fz h1 e=>?_)) ?_ (fun y hy=>?_)⟩
 ·rcases e with e | e
  ·exact Or.inr (Or.inl e)
  ·exact Or.inr (Or.inr (Or.inr e))
 ·rcases e with e | e
  ·exact h.rne e
  ·exact h.ro.1 e
 ·have:=hno _ _ _ _ h1 e
  revert this
  decide
 ·have e1:(old++[u]).length=old.length+1:=by simp
  have e2:runCells (old++[u])=runCells old++[.int .i64 u.1.step,u.2,.int .i64 u.1.first]:=by simp[runCells]
  rw[e1,e2]
  refine own_keepT ow (hs.keep (D:=fun k=>k=eb) rfl) (fun k c fz h1 e=>?_)
  subst e
  rw[he] at h1
  cases h1
 ·rcases List.mem_append.1 hy with h1 | h1
  ·exact Or.inl h1
  ·simp only[List.mem_singleton] at h1
   subst h1
   refine Or.inr (own_keepT hu hk (fun k c fz h1 e=>?_))
   have:=hno _ _ _ _ h1 e
   revert this
   decide
theorem DL.reads (h:DL w W rb eb pb P wm nx vs vw vo Q old r x):Reads (fun _=>True) W eb pb P vs (.slice none 0 0) vo [] old:=by
 obtain⟨c0,-,-,-,c4,c5,-⟩:=eng_cells h.blk
 obtain⟨p0,p1,-,-⟩:=res_cells h.pat
 exact⟨c0,c4,c5,p0,p1,RowAt.mono (RowAt.ofOwn h.steps) (fun _ _ _=>trivial),RowAt.mono (RowAt.ofOwn (own_nil W 0 89 3)) (fun _ _ _=>trivial),RowAt.mono (RowAt.ofOwn h.row) (fun _ _ _=>trivial),fun y hy=>RowAt.mono (RowAt.ofOwn (h.offs y hy)) (fun _ _ _=>trivial)⟩
def DL.rlp (W:World)(rb eb pb:Nat)(P:En.Pat)(wm:Int)(nx:Nat)(vs vw vo:Value)(Q:List En.Ev)(old:List RV):RlP where
 F:=fun c=>c < W.heap.size∧c≠rb
 eb:=eb
 pb:=pb
 b:=rb
 P:=P
 W:=wm
 nx:=nx
 vs:=vs
 vw:=vw
 vd:=.slice none 0 0
 vo:=vo
 Q:=Q
 old:=old
theorem own_row_but {F:Nat→Prop}{w:World}{base:Nat}{e:TypeId}{size:Nat}{v:Value}{n:Nat}{xs:List Value}(h:w.ownsRow base e size v n xs)(hF:∀k,k < w.heap.size→v.ownBlock=some k→F k):RowAt F w v size n xs:=by
 have h1:=RowAt.ofOwn h
 refine⟨h1.1,?_⟩
 rcases h.2 with ⟨h0,h00⟩ | ⟨g,cap,cur,hv,hb1,hg,rest⟩
 ·rcases h1.2 with h2 | ⟨b,o,cap',he,r1,r2,r3,r4,r5⟩
  ·exact Or.inl h2
  ·exfalso
   rw[h0] at he
   cases he
 ·rcases h1.2 with h2 | ⟨b,o,cap',he,r1,r2,r3,r4,r5⟩
  ·exact Or.inl h2
  ·rw[hv] at he
   cases he
   exact Or.inr ⟨g,0,cap,hv,hF g (lt_of_block hg) (by rw[hv];rfl),r2,r3,r4,r5⟩
theorem DL.tb (h:DL w W rb eb pb P wm nx vs vw vo Q old r x){c:Array Value}{t:TypeId}{fz:Nat × Nat}(hb:W.heap[rb]?=some (.cells c t fz)):t=79:=by
 have h2:=h.rd
 unfold RdrAt at h2
 rw[h2] at hb
 cases hb
 rfl
theorem DL.at (h:DL w W rb eb pb P wm nx vs vw vo Q old r x){n:Nat}(hn:nx=n):(DL.rlp W rb eb pb P wm n vs vw vo Q old).At W:=by
 subst hn
 refine⟨h.blk,h.pat,own_row_but h.steps (fun k hk e=>⟨hk,?_⟩),own_row_but h.wait (fun k hk e=>⟨hk,?_⟩)⟩
 ·rintro rfl
  obtain⟨-,c,fz,h1⟩:=own_block h.steps _ e
  exact absurd (h.tb h1) (by decide)
 ·rintro rfl
  obtain⟨-,c,fz,h1⟩:=own_block h.wait _ e
  exact absurd (h.tb h1) (by decide)
theorem DL.ok (h:DL w W rb eb pb P wm nx vs vw vo Q old r x){n:Nat}(hf:Pl.Fine P.steps P.win)(w0:-9223372036854775808≤wm)(w1:wm < 9223372036854775808)(n1:n < 9007199254740992)(q12:Q.length≤12):(DL.rlp W rb eb pb P wm n vs vw vo Q old).Ok:=by
 refine⟨hf,w0,w1,n1,q12,h.rne,?_,fun e=>e.2 rfl⟩
 rintro (rfl:rb=pb)
 exact absurd (h.tb h.pat) (by decide)
theorem DL.reng (h:DL w W rb eb pb P wm nx vs vw vo Q old r x):REng (fun c=>c < W.heap.size∧c≠eb∧vw.ownBlock≠some c) W eb pb P wm nx vs vw (.slice none 0 0) vo Q [] old:=by
 have hn:∀k c t fz,W.heap[k]?=some (.cells c t fz)→t≠86→t≠89→k≠eb∧vw.ownBlock≠some k:=by
  intro k c t fz h1 h2 h3
  constructor
  ·rintro rfl
   rw[h.blk] at h1
   cases h1
   exact h2 rfl
  ·intro e
   obtain⟨-,c',fz',h4⟩:=own_block h.wait k e
   rw[h1] at h4
   cases h4
   exact h3 rfl
 refine⟨h.blk,fun e=>e.2.1 rfl,h.pat,⟨lt_of_block h.pat,hn _ _ _ _ h.pat (by decide) (by decide)⟩,fun b hb=>hb.1,own_row_but h.steps (fun k hk e=>⟨hk,?_⟩),own_mono h.wait (Nat.zero_le _),fun g hg e=>e.2.2 hg,?_,own_row_but h.row (fun k hk e=>⟨hk,?_⟩),fun y hy=>own_row_but (h.offs y hy) (fun k hk e=>⟨hk,?_⟩)⟩
 ·obtain⟨-,c,fz,h1⟩:=own_block h.steps _ e
  exact hn _ _ _ _ h1 (by decide) (by decide)
 ·exact own_row_but (own_nil W 0 89 3) (fun k hk e=>by simp[Value.ownBlock] at e)
 ·obtain⟨-,c,fz,h1⟩:=own_block h.row _ e
  exact hn _ _ _ _ h1 (by decide) (by decide)
 ·obtain⟨-,c,fz,h1⟩:=own_block (h.offs y hy) _ e
  exact hn _ _ _ _ h1 (by decide) (by decide)
end
namespace Fr
def dEv (steps:List (Int × Bool))(nx:Nat)(wm:Int)(l:List UInt8):Option (En.Ev × List UInt8):=
 match rdB 9007199254740992 l with
 | none=>none
 | some (a,r1)=>
  match rdB 1114112 r1 with
  | none=>none
  | some (b,r2)=>
   match rdM r2 with
   | none=>none
   | some (c,r3)=>if (steps.any fun x=>x.1 == (b:Int))=true∧a < nx∧wm < c then some (⟨a,b,c⟩,r3) else none
def dEvs (steps:List (Int × Bool))(nx:Nat)(wm:Int):Nat→List En.Ev→List UInt8→Option (List En.Ev × List UInt8)
 | 0,acc,l=>some (acc,l)
 | k+1,acc,l=>
  match dEv steps nx wm l with
  | none=>none
  | some (x,r)=>dEvs steps nx wm k (acc++[x]) r
def dRns (steps:List (Int × Bool))(win:Int)(nx:Nat)(wm:Int)(Q:List En.Ev):Nat→List En.Rn→List UInt8→Option (List En.Rn × List UInt8)
 | 0,acc,l=>some (acc,l)
 | k+1,acc,l=>
  match dRun steps win nx wm Q l with
  | none=>none
  | some (x,r)=>dRns steps win nx wm Q k (acc++[x]) r
def contR (steps:List (Int × Bool))(win wm:Int)(nx:Nat)(Q:List En.Ev)(o:Option (List En.Rn × List UInt8)):Option (Stt × List UInt8):=
 match o with
 | none=>none
 | some (R,r)=>some (⟨steps,win,wm,nx,Q,R⟩,r)
def contQ (steps:List (Int × Bool))(win wm:Int)(nx:Nat)(o:Option (List En.Ev × List UInt8)):Option (Stt × List UInt8):=
 match o with
 | none=>none
 | some (Q,r)=>
  match rdB 25 r with
  | none=>none
  | some (m,r')=>contR steps win wm nx Q (dRns steps win nx wm Q m [] r')
def dBody (steps:List (Int × Bool))(win:Int)(l:List UInt8):Option (Stt × List UInt8):=
 match rdM l with
 | none=>none
 | some (wm,r1)=>
  match rdB 9007199254740992 r1 with
  | none=>none
  | some (nx,r2)=>
   match rdB 13 r2 with
   | none=>none
   | some (k,r3)=>contQ steps win wm nx (dEvs steps nx wm k [] r3)
def dState (l:List UInt8):Option (Stt × List UInt8):=
 match rdB 61 l with
 | none=>none
 | some (n,r)=>
  if r.length < n then none else
   match Pl.parse ⟨(r.take n).toArray⟩ with
   | none=>none
   | some (st,win)=>dBody st win (r.drop n)
theorem rdM_range {l r:List UInt8}{t:Int}(h:rdM l=some (t,r)):-9223372036854775808≤t∧t < 9223372036854775808∧l=mom t++r:=by
 unfold rdM at h
 cases e:rd l with
 | none=>rw[e] at h;cases h
 | some q=>
  obtain⟨n,r'⟩:=q
  rw[e] at h
  simp only[Option.map_some,Option.some.injEq,Prod.mk.injEq] at h
  obtain⟨rfl,rfl⟩:=h
  obtain⟨h1,h2⟩:=rd_back e
  obtain⟨h3,h4⟩:=zag_range h2
  refine⟨h3,h4,?_⟩
  unfold mom
  rw[zig_zag]
  exact h1
def ERel (D:Option (Stt × List UInt8))(steps:List (Int × Bool))(win wm:Int)(nx k i:Nat)(Q:List En.Ev)(r:List UInt8)(x:Bool):Prop:=
 (x=true∧D=none)∨(x=false∧i≤k∧k≤12∧nx < 9007199254740992∧D=contQ steps win wm nx (dEvs steps nx wm (k - i) Q r))
theorem nextS_bad {top n:Nat}{l r:List UInt8}{x:Bool}(h:StS (nextS top true l) n r x):x=true:=by
 simpa [nextS,StS] using h
theorem momS_bad {t:Int}{l r:List UInt8}{x:Bool}(h:StS (momS true l) t r x):x=true:=by
 simpa [momS,StS] using h
theorem nextS_ok {top n:Nat}{l r:List UInt8}{x:Bool}(h:StS (nextS top false l) n r x):(x=true∧rdB (top+1) l=none)∨(x=false∧rdB (top+1) l=some (n,r)):=by
 unfold nextS at h
 simp only[Bool.false_eq_true,if_false] at h
 cases e:rdB (top+1) l with
 | none=>rw[e] at h;exact Or.inl ⟨h,rfl⟩
 | some q=>
  obtain⟨a,b⟩:=q
  rw[e] at h
  obtain⟨h1,rfl,rfl⟩:=h
  exact Or.inr ⟨h1,rfl⟩
theorem momS_ok {t:Int}{l r:List UInt8}{x:Bool}(h:StS (momS false l) t r x):(x=true∧rdM l=none)∨(x=false∧rdM l=some (t,r)):=by
 unfold momS at h
 simp only[Bool.false_eq_true,if_false] at h
 cases e:rdM l with
 | none=>rw[e] at h;exact Or.inl ⟨h,rfl⟩
 | some q=>
  obtain⟨a,b⟩:=q
  rw[e] at h
  obtain⟨h1,rfl,rfl⟩:=h
  exact Or.inr ⟨h1,rfl⟩
theorem ERel.start {steps:List (Int × Bool)}{win wm:Int}{nx k:Nat}{l r1 r2 r3:List UInt8}{x1 x2 x3:Bool}(h1:StS (momS false l) wm r1 x1)(h2:StS (nextS 9007199254740991 x1 r1) nx r2 x2)(h3:StS (nextS 12 x2 r2) k r3 x3):ERel (dBody steps win l) steps win wm nx k 0 [] r3 x3:=by
 unfold dBody
 rcases momS_ok h1 with ⟨rfl,e1⟩ | ⟨rfl,e1⟩
 ·have h4:=nextS_bad h2
  subst h4
  exact Or.inl ⟨nextS_bad h3,by rw[e1]⟩
 ·rw[e1]
  rcases nextS_ok h2 with ⟨rfl,e2⟩ | ⟨rfl,e2⟩
  ·exact Or.inl ⟨nextS_bad h3,by simp only[e2]⟩
  ·simp only[e2]
   rcases nextS_ok h3 with ⟨rfl,e3⟩ | ⟨rfl,e3⟩
   ·exact Or.inl ⟨rfl,by simp only[e3]⟩
   ·simp only[e3]
    have:=(rdB_some e2).2
    have:=(rdB_some e3).2
    exact Or.inr ⟨rfl,Nat.zero_le _,by omega,by omega,rfl⟩
theorem ERel.step {D:Option (Stt × List UInt8)}{steps:List (Int × Bool)}{win wm:Int}{nx k i a b:Nat}{c:Int}{Q:List En.Ev}{r r1 r2 r3:List UInt8}{x1 x2 x3 x hs:Bool}{kd:Int}(h:ERel D steps win wm nx k i Q r false)(hi:i < k)(h1:StS (nextS 9007199254740991 false r) a r1 x1)(h2:StS (nextS 1114111 x1 r1) b r2 x2)(h3:StS (momS x2 r2) c r3 x3)
  (hkd:b < 1114112→kd=b) (hhs:(steps.any fun y=>y.1 == kd)=hs) (hx:x=(((x3 || !hs) || decide ((nx:Int)≤wrap64 a)) || decide (c≤wm))):ERel D steps win wm nx k (i+1) (Q++[⟨wrap64 a,kd,c⟩]) r3 x:=by
 rcases h with ⟨h,-⟩ | ⟨-,h5,h6,h7,h8⟩
 ·cases h
 ·rw[show k - i=(k - (i+1))+1 by omega,dEvs] at h8
  unfold dEv at h8
  rcases nextS_ok h1 with ⟨rfl,e1⟩ | ⟨rfl,e1⟩
  ·have h4:=nextS_bad h2
   subst h4
   have h4:=momS_bad h3
   subst h4
   simp only[e1] at h8
   exact Or.inl ⟨by rw[hx];simp,h8⟩
  ·simp only[e1] at h8
   rcases nextS_ok h2 with ⟨rfl,e2⟩ | ⟨rfl,e2⟩
   ·have h4:=momS_bad h3
    subst h4
    simp only[e2] at h8
    exact Or.inl ⟨by rw[hx];simp,h8⟩
   ·simp only[e2] at h8
    rcases momS_ok h3 with ⟨rfl,e3⟩ | ⟨rfl,e3⟩
    ·simp only[e3] at h8
     exact Or.inl ⟨by rw[hx];simp,h8⟩
    ·simp only[e3] at h8
     have ha:=(rdB_some e1).2
     have hb:=(rdB_some e2).2
     have hk:=hkd (by omega)
     subst hk
     have hw:wrap64 (a:Int)=a:=by unfold wrap64;omega
     rw[hw] at hx ⊢
     rw[hhs] at h8
     by_cases hc:hs=true∧a < nx∧wm < c
     ·simp only[if_pos hc] at h8
      refine Or.inr ⟨?_,by omega,h6,h7,h8⟩
      obtain⟨rfl,c1,c2⟩:=hc
      rw[hx,decide_eq_false (by omega),decide_eq_false (by omega)]
      rfl
     ·simp only[if_neg hc] at h8
      refine Or.inl ⟨?_,h8⟩
      rw[hx]
      cases hs with
      | false=>simp
      | true=>
       simp only[true_and] at hc
       by_cases c1:a < nx
       ·rw[decide_eq_true (show c≤wm by omega)];simp
       ·rw[decide_eq_true (show (nx:Int)≤a by omega)];simp
def RRel (D:Option (Stt × List UInt8))(steps:List (Int × Bool))(win wm:Int)(nx:Nat)(Q:List En.Ev)(k i:Nat)(R:List En.Rn)(r:List UInt8)(x:Bool):Prop:=
 (x=true∧D=none)∨(x=false∧i≤k∧k≤24∧nx < 9007199254740992∧D=contR steps win wm nx Q (dRns steps win nx wm Q (k - i) R r))
theorem RRel.start {D:Option (Stt × List UInt8)}{steps:List (Int × Bool)}{win wm:Int}{nx k i m:Nat}{Q:List En.Ev}{r r':List UInt8}{x x':Bool}(h:ERel D steps win wm nx k i Q r x)(hi:x=false→¬ i < k)(h1:StS (nextS 24 x r) m r' x'):RRel D steps win wm nx Q m 0 [] r' x':=by
 rcases h with ⟨rfl,h⟩ | ⟨rfl,h5,h6,h7,h8⟩
 ·exact Or.inl ⟨nextS_bad h1,h⟩
 ·have:=hi rfl
  rw[show k - i=0 by omega,dEvs] at h8
  unfold contQ at h8
  rcases nextS_ok h1 with ⟨rfl,e1⟩ | ⟨rfl,e1⟩
  ·exact Or.inl ⟨rfl,by simp only[e1] at h8;exact h8⟩
  ·simp only[e1] at h8
   have:=(rdB_some e1).2
   exact Or.inr ⟨rfl,Nat.zero_le _,by omega,h7,h8⟩
theorem RRel.step {D:Option (Stt × List UInt8)}{steps:List (Int × Bool)}{win wm:Int}{nx k i:Nat}{Q:List En.Ev}{R:List En.Rn}{u:En.Rn}{r r':List UInt8}{x':Bool}(h:RRel D steps win wm nx Q k i R r false)(hi:i < k)(h1:StS (dRun steps win nx wm Q r) u r' x'):RRel D steps win wm nx Q k (i+1) (R++[u]) r' x':=by
 rcases h with ⟨h,-⟩ | ⟨-,h5,h6,h7,h8⟩
 ·cases h
 ·rw[show k - i=(k - (i+1))+1 by omega,dRns] at h8
  cases e:dRun steps win nx wm Q r with
  | none=>
   rw[e] at h1 h8
   exact Or.inl ⟨h1,h8⟩
  | some q=>
   obtain⟨a,b⟩:=q
   rw[e] at h1 h8
   obtain⟨h9,rfl,rfl⟩:=h1
   exact Or.inr ⟨h9,by omega,h6,h7,h8⟩
theorem RRel.done {D:Option (Stt × List UInt8)}{steps:List (Int × Bool)}{win wm:Int}{nx k i:Nat}{Q:List En.Ev}{R:List En.Rn}{r:List UInt8}(h:RRel D steps win wm nx Q k i R r false)(hi:¬ i < k):D=some (⟨steps,win,wm,nx,Q,R⟩,r):=by
 rcases h with ⟨h,-⟩ | ⟨-,h5,h6,h7,h8⟩
 ·cases h
 ·rw[show k - i=0 by omega,dRns] at h8
  exact h8
end Fr
end Go.Proofs.YtfldcmdhneegmaaGreatDoor
namespace Go.Proofs.YtfldcmdhneegmaaGreatDoor
namespace En
theorem put_lastL {l:List Rn}{r:Rn}(h:∀y∈l,lt y r=true):put l r=l++[r]:=by
 induction l with
 | nil=>rfl
 | cons x t ih=>
  have hx:=h x List.mem_cons_self
  have hk:¬ sameKey x r=true:=fun hk=>by
   obtain⟨h1,h2⟩:=sameKey_iff.1 hk
   have h3:=lt_irrefl x
   unfold lt at hx h3
   rw[← h1,← h2] at hx
   rw[hx] at h3
   cases h3
  rw[put,if_neg hk,if_pos hx,ih (fun y hy=>h y (List.mem_cons_of_mem _ hy))]
  rfl
theorem ord_lastL {l:List Rn}{r:Rn}{m:List Rn}(h:Ord (l++r::m)):∀y∈l,lt y r=true:=by
 induction l with
 | nil=>intro y hy;cases hy
 | cons x t ih=>
  intro y hy
  rcases List.mem_cons.1 hy with rfl | hy
  ·exact h.1 r (by simp)
  ·exact ih h.2 y hy
theorem puts_ordL:∀(m l:List Rn),Ord (l++m)→puts l m=l++m:=by
 intro m
 induction m with
 | nil=>intro l _;simp[puts]
 | cons r m ih=>
  intro l h
  show puts (put l r) m=_
  rw[put_lastL (ord_lastL h)]
  have e:l++r::m=(l++[r])++m:=by simp
  rw[e] at h ⊢
  exact ih _ h
theorem under_oldL {P:Pat}{old:List Rn}{W:Int}(ho:Ord old)(hl:∀r∈old,far W r.first < P.win):under P [] old W (P.win - 1)=old:=by
 have hf:old.filter (fun r=>decide (0≤P.win - 1∧far W r.first≤P.win - 1))=old:=by
  rw[List.filter_eq_self]
  intro r hr
  have h1:=hl r hr
  have h2:0≤far W r.first:=by unfold far;omega
  exact decide_eq_true ⟨by omega,by omega⟩
 unfold under
 rw[hf]
 exact puts_ordL old [] ho
end En
namespace Fr
theorem rdB_back {limit n:Nat}{l r:List UInt8}(h:rdB limit l=some (n,r)):l=num n++r∧n < limit∧n < 18446744073709551616:=
 ⟨(rd_back (rdB_some h).1).1,(rdB_some h).2,(rd_back (rdB_some h).1).2⟩
theorem rdB_of {b n:Nat}{l r:List UInt8}(h:rd l=some (n,r))(hb:n < b):rdB b l=some (n,r):=by
 unfold rdB
 rw[h]
 simp only[if_pos hb]
structure EvOk (steps:List (Int × Bool))(nx:Nat)(wm:Int)(e:En.Ev):Prop where
 o0:0≤e.off
 o1:e.off < nx
 k0:0≤e.kind
 k1:e.kind < 1114112
 has:(steps.any fun x=>x.1 == e.kind)=true
 t0:wm < e.time
 t1:e.time < 9223372036854775808
theorem dEv_some {steps:List (Int × Bool)}{nx:Nat}{wm:Int}{l r:List UInt8}{e:En.Ev}(h:dEv steps nx wm l=some (e,r)):l=En.evB e++r∧EvOk steps nx wm e:=by
 unfold dEv at h
 cases e1:rdB 9007199254740992 l with
 | none=>simp only[e1] at h;cases h
 | some q1=>
  obtain⟨a,r1⟩:=q1
  simp only[e1] at h
  cases e2:rdB 1114112 r1 with
  | none=>simp only[e2] at h;cases h
  | some q2=>
   obtain⟨b,r2⟩:=q2
   simp only[e2] at h
   cases e3:rdM r2 with
   | none=>simp only[e3] at h;cases h
   | some q3=>
    obtain⟨c,r3⟩:=q3
    simp only[e3] at h
    split at h
    ·rename_i hc
     cases h
     obtain⟨f1,f2,f3⟩:=rdB_back e1
     obtain⟨g1,g2,g3⟩:=rdB_back e2
     obtain⟨k1,k2,k3⟩:=rdM_range e3
     refine⟨?_,⟨by simp,by simp;omega,by simp,by simp;omega,hc.1,hc.2.2,k2⟩⟩
     rw[f1,g1,k3]
     simp[En.evB]
    ·cases h
theorem rdEv_d {steps:List (Int × Bool)}{nx:Nat}{wm:Int}{l r:List UInt8}{e:En.Ev}(hn:nx≤9007199254740992)(h:rdEv steps nx wm l=some (e,r)):dEv steps nx wm l=some (e,r):=by
 unfold rdEv at h
 unfold dEv
 cases e1:rdB nx l with
 | none=>simp only[e1] at h;cases h
 | some q1=>
  obtain⟨a,r1⟩:=q1
  simp only[e1] at h
  have ha:=rdB_some e1
  have e1':=rdB_of (b:=9007199254740992) ha.1 (by omega)
  simp only[e1']
  cases e2:rdB 1114112 r1 with
  | none=>simp only[e2] at h;cases h
  | some q2=>
   obtain⟨b,r2⟩:=q2
   simp only[e2] at h ⊢
   split at h
   ·rename_i hc
    cases e3:rdM r2 with
    | none=>simp only[e3] at h;cases h
    | some q3=>
     obtain⟨c,r3⟩:=q3
     simp only[e3] at h ⊢
     split at h
     ·rename_i ht
      rw[if_pos ⟨hc,ha.2,ht⟩]
      exact h
     ·cases h
   ·cases h
theorem dEvs_some {steps:List (Int × Bool)}{nx:Nat}{wm:Int}:∀(k:Nat) (acc Q:List En.Ev) (l r:List UInt8),dEvs steps nx wm k acc l=some (Q,r)→∃t,Q=acc++t∧t.length=k∧l=En.evsB t++r∧∀e∈t,EvOk steps nx wm e:=by
 intro k
 induction k with
 | zero=>
  intro acc Q l r h
  rw[dEvs] at h
  cases h
  exact⟨[],by simp,rfl,by simp[En.evsB],by simp⟩
 | succ k ih=>
  intro acc Q l r h
  rw[dEvs] at h
  cases e1:dEv steps nx wm l with
  | none=>simp only[e1] at h;cases h
  | some q=>
   obtain⟨x,r1⟩:=q
   simp only[e1] at h
   obtain⟨t,h1,h2,h3,h4⟩:=ih _ _ _ _ h
   obtain⟨g1,g2⟩:=dEv_some e1
   refine⟨x::t,by rw[h1];simp,by simp[h2],?_,?_⟩
   ·rw[g1,h3]
    simp[En.evsB]
   ·intro e he
    rcases List.mem_cons.1 he with rfl | he
    ·exact g2
    ·exact h4 e he
theorem pair_snoc {α:Type}{R:α→α→Prop}(tr:∀a b c,R a b→R b c→R a c){l:List α}{x:α}(h:l.Pairwise R)(hl:∀y,l.getLast?=some y→R y x):(l++[x]).Pairwise R:=by
 rw[List.pairwise_append]
 refine⟨h,List.pairwise_singleton _ _,fun y hy z hz=>?_⟩
 obtain rfl:z=x:=by simpa using hz
 have hne:l≠[]:=List.ne_nil_of_mem hy
 have hg:=hl _ (List.getLast?_eq_some_getLast hne)
 have hd:=List.dropLast_concat_getLast hne
 rw[← hd,List.pairwise_append] at h
 rw[← hd] at hy
 rcases List.mem_append.1 hy with h1 | h1
 ·exact tr _ _ _ (h.2.2 y h1 _ (by simp)) hg
 ·obtain rfl:y=l.getLast hne:=by simpa using h1
  exact hg
theorem evLt_trans (a b c:En.Ev)(h1:En.evLt a b=true)(h2:En.evLt b c=true):En.evLt a c=true:=by
 rw[En.evLt_iff] at *
 omega
theorem rdEvs_d {steps:List (Int × Bool)}{nx:Nat}{wm:Int}(hn:nx≤9007199254740992):∀(k:Nat) (acc Q:List En.Ev) (l r:List UInt8),rdEvs steps nx wm k acc l=some (Q,r)→acc.Pairwise (fun a b=>En.evLt a b=true)→(acc.map En.Ev.off).Nodup →
  dEvs steps nx wm k acc l=some (Q,r)∧Q.Pairwise (fun a b=>En.evLt a b=true)∧(Q.map En.Ev.off).Nodup:=by
 intro k
 induction k with
 | zero=>
  intro acc Q l r h p n
  rw[rdEvs] at h
  cases h
  exact⟨rfl,p,n⟩
 | succ k ih=>
  intro acc Q l r h p n
  rw[rdEvs] at h
  rw[dEvs]
  cases e1:rdEv steps nx wm l with
  | none=>simp only[e1] at h;cases h
  | some q=>
   obtain⟨x,r1⟩:=q
   simp only[e1] at h
   rw[rdEv_d hn e1]
   simp only[]
   split at h
   ·cases h
   ·rename_i ha
    split at h
    ·rename_i hb
     refine ih _ _ _ _ h (pair_snoc evLt_trans p (fun y hy=>?_)) ?_
     ·have hne:acc≠[]:=by rintro rfl;cases hy
      have hp:=List.length_pos_iff.2 hne
      rcases hb with hb | hb
      ·exact absurd hb hne
      ·rw[En.nth_eq (by omega)] at hb
       rw[List.getLast?_eq_getElem?,List.getElem?_eq_getElem (by omega)] at hy
       cases hy
       exact hb
     ·rw[List.map_append,List.nodup_append]
      refine⟨n,by simp,fun a h1 b h2 e=>?_⟩
      subst e
      obtain⟨y,hy,rfl⟩:=List.mem_map.1 h1
      refine ha (List.any_eq_true.2 ⟨y,hy,?_⟩)
      simp only[List.map_cons,List.map_nil,List.mem_singleton] at h2
      simpa using h2
    ·cases h
theorem dOff_some {nx:Nat}{Q:List En.Ev}{acc:List Int}{l r:List UInt8}{o:Nat}(h:dOff nx Q acc l=some (o,r)):l=num o++r∧o < nx∧¬ (o:Int)∈acc∧∀e∈Q,e.off≠(o:Int):=by
 unfold dOff at h
 cases e1:rdB 9007199254740992 l with
 | none=>simp only[e1] at h;cases h
 | some q1=>
  obtain⟨a,r1⟩:=q1
  simp only[e1] at h
  split at h
  ·rename_i hc
   cases h
   refine⟨(rdB_back e1).1,hc.1,hc.2.1,fun e he hh=>?_⟩
   have:=List.any_eq_false.1 hc.2.2 e he
   exact this (by simpa using hh)
  ·cases h
theorem dOffs_some {nx:Nat}{Q:List En.Ev}:∀(k:Nat) (acc os:List Int) (l r:List UInt8),dOffs nx Q k acc l=some (os,r)→∃t,os=acc++t∧t.length=k∧l=En.offsB t++r∧(∀o∈t,0≤o∧o < nx∧∀e∈Q,e.off≠o)∧(acc.Nodup→os.Nodup):=by
 intro k
 induction k with
 | zero=>
  intro acc os l r h
  rw[dOffs] at h
  cases h
  exact⟨[],by simp,rfl,by simp[En.offsB],by simp,id⟩
 | succ k ih=>
  intro acc os l r h
  rw[dOffs] at h
  cases e1:dOff nx Q acc l with
  | none=>simp only[e1] at h;cases h
  | some q=>
   obtain⟨x,r1⟩:=q
   simp only[e1] at h
   obtain⟨t,h1,h2,h3,h4,h5⟩:=ih _ _ _ _ h
   obtain⟨g1,g2,g3,g4⟩:=dOff_some e1
   refine⟨(x:Int)::t,by rw[h1];simp,by simp[h2],?_,?_,fun hn=>h5 ?_⟩
   ·rw[g1,h3]
    simp[En.offsB]
   ·intro e he
    rcases List.mem_cons.1 he with rfl | he
    ·exact⟨by omega,by omega,g4⟩
    ·exact h4 e he
   ·rw[List.nodup_append]
    refine⟨hn,by simp,fun a h1 b h2 e=>?_⟩
    subst e
    obtain rfl:a=(x:Int):=by simpa using h2
    exact g3 h1
theorem rdOffs_pre {nx:Nat}{Q:List En.Ev}:∀(k:Nat) (acc os:List Int) (l r:List UInt8),rdOffs nx Q k acc l=some (os,r)→∃t,os=acc++t∧k+r.length≤l.length:=by
 intro k
 induction k with
 | zero=>
  intro acc os l r h
  rw[rdOffs] at h
  cases h
  exact⟨[],by simp,by omega⟩
 | succ k ih=>
  intro acc os l r h
  rw[rdOffs] at h
  cases e1:rdO nx Q l with
  | none=>simp only[e1] at h;cases h
  | some q=>
   obtain⟨x,r1⟩:=q
   simp only[e1] at h
   obtain⟨t,h1,h2⟩:=ih _ _ _ _ h
   have g1:=(rd_back (rdO_some e1).1).1
   have g2:=num_pos x
   refine⟨(x:Int)::t,by rw[h1];simp,?_⟩
   rw[g1,List.length_append]
   omega
theorem rdOffs_d {nx:Nat}{Q:List En.Ev}(hn:nx≤9007199254740992):∀(k:Nat) (acc os:List Int) (l r:List UInt8),rdOffs nx Q k acc l=some (os,r)→os.Nodup→dOffs nx Q k acc l=some (os,r):=by
 intro k
 induction k with
 | zero=>
  intro acc os l r h _
  rw[rdOffs] at h
  exact h
 | succ k ih=>
  intro acc os l r h hd
  rw[rdOffs] at h
  rw[dOffs]
  cases e1:rdO nx Q l with
  | none=>simp only[e1] at h;cases h
  | some q=>
   obtain⟨x,r1⟩:=q
   simp only[e1] at h
   obtain⟨t,h1,-⟩:=rdOffs_pre _ _ _ _ _ h
   obtain⟨g1,g2,g3⟩:=rdO_some e1
   have h2:¬ (x:Int)∈acc:=by
    rw[h1,List.nodup_append,List.nodup_append] at hd
    exact fun hm=>hd.1.2.2 _ hm (x:Int) (by simp) rfl
   have h3:dOff nx Q acc l=some (x,r1):=by
    unfold dOff
    rw[rdB_of g1 (by omega)]
    simp only[]
    rw[if_pos ⟨g2,h2,g3⟩]
   rw[h3]
   exact ih _ _ _ _ h hd
structure RnOk (steps:List (Int × Bool))(win:Int)(nx:Nat)(wm:Int)(Q:List En.Ev)(x:En.Rn):Prop where
 st:x.step < steps.length
 go:goesOn steps x.step=true
 fit:fits steps x.step x.offs.length=true
 offs:∀o∈x.offs,0≤o∧o < nx∧∀e∈Q,e.off≠o
 nd:x.offs.Nodup
 len:x.offs.length≤1048576
 t0:-9223372036854775808≤x.first
 t1:x.first≤wm
 far:En.far wm x.first < win
theorem dRun_some {steps:List (Int × Bool)}{win:Int}{nx:Nat}{wm:Int}{Q:List En.Ev}{l r:List UInt8}{x:En.Rn}(h:dRun steps win nx wm Q l=some (x,r)):l=En.runB x++r∧RnOk steps win nx wm Q x:=by
 unfold dRun at h
 cases e1:rdB steps.length l with
 | none=>simp only[e1] at h;cases h
 | some q1=>
  obtain⟨s,r1⟩:=q1
  simp only[e1] at h
  cases e2:rdB 1048577 r1 with
  | none=>simp only[e2] at h;cases h
  | some q2=>
   obtain⟨n,r2⟩:=q2
   simp only[e2] at h
   cases e3:dOffs nx Q n [] r2 with
   | none=>simp only[e3] at h;cases h
   | some q3=>
    obtain⟨os,r3⟩:=q3
    simp only[e3] at h
    cases e4:rdM r3 with
    | none=>simp only[e4] at h;cases h
    | some q4=>
     obtain⟨t,r4⟩:=q4
     simp only[e4] at h
     split at h
     ·rename_i hc
      cases h
      obtain⟨f1,f2,f3⟩:=rdB_back e1
      obtain⟨g1,g2,g3⟩:=rdB_back e2
      obtain⟨t',k1,k2,k3,k4,k5⟩:=dOffs_some _ _ _ _ _ e3
      obtain⟨m1,m2,m3⟩:=rdM_range e4
      simp only[List.nil_append] at k1
      subst k1
      refine⟨?_,⟨f2,hc.1,hc.2.1,k4,k5 List.nodup_nil,by simp only;omega,m1,hc.2.2.1,hc.2.2.2⟩⟩
      rw[f1,g1,k3,m3,← k2]
      simp[En.runB]
     ·cases h
theorem rdRun_d {steps:List (Int × Bool)}{win:Int}{nx:Nat}{wm:Int}{Q:List En.Ev}{l r:List UInt8}{x:En.Rn}(hn:nx≤9007199254740992)(hl:l.length≤1000000)(h:rdRun steps win nx wm Q l=some (x,r)):dRun steps win nx wm Q l=some (x,r):=by
 unfold rdRun at h
 unfold dRun
 cases e1:rdB steps.length l with
 | none=>simp only[e1] at h;cases h
 | some q1=>
  obtain⟨s,r1⟩:=q1
  simp only[e1] at h ⊢
  split at h
  ·rename_i hg
   cases e2:rd r1 with
   | none=>simp only[e2] at h;cases h
   | some q2=>
    obtain⟨n,r2⟩:=q2
    simp only[e2] at h
    cases e3:rdOffs nx Q n [] r2 with
    | none=>simp only[e3] at h;cases h
    | some q3=>
     obtain⟨os,r3⟩:=q3
     simp only[e3] at h
     split at h
     ·rename_i hf
      split at h
      ·rename_i ht
       have hnd:os.Nodup:=by
        unfold twice at ht
        have:=of_decide_eq_false ht
        exact Decidable.not_not.1 this
       obtain⟨t',k1,k2⟩:=rdOffs_pre _ _ _ _ _ e3
       have b1:=rd_len (rdB_some e1).1
       have b2:=rd_len e2
       have e2':=rdB_of (b:=1048577) e2 (by omega)
       simp only[e2',rdOffs_d hn _ _ _ _ _ e3 hnd]
       cases e4:rdM r3 with
       | none=>simp only[e4] at h;cases h
       | some q4=>
        obtain⟨t,r4⟩:=q4
        simp only[e4] at h ⊢
        split at h
        ·rename_i hw
         split at h
         ·rename_i hv
          rw[if_pos ⟨hg,hf,hw,hv⟩]
          exact h
         ·cases h
        ·cases h
      ·cases h
     ·cases h
  ·cases h
theorem dRns_some {steps:List (Int × Bool)}{win:Int}{nx:Nat}{wm:Int}{Q:List En.Ev}:∀(k:Nat) (acc R:List En.Rn) (l r:List UInt8),dRns steps win nx wm Q k acc l=some (R,r)→∃t,R=acc++t∧t.length=k∧l=En.runsB t++r∧∀e∈t,RnOk steps win nx wm Q e:=by
 intro k
 induction k with
 | zero=>
  intro acc R l r h
  rw[dRns] at h
  cases h
  exact⟨[],by simp,rfl,by simp[En.runsB],by simp⟩
 | succ k ih=>
  intro acc R l r h
  rw[dRns] at h
  cases e1:dRun steps win nx wm Q l with
  | none=>simp only[e1] at h;cases h
  | some q=>
   obtain⟨x,r1⟩:=q
   simp only[e1] at h
   obtain⟨t,h1,h2,h3,h4⟩:=ih _ _ _ _ h
   obtain⟨g1,g2⟩:=dRun_some e1
   refine⟨x::t,by rw[h1];simp,by simp[h2],?_,?_⟩
   ·rw[g1,h3]
    simp[En.runsB]
   ·intro e he
    rcases List.mem_cons.1 he with rfl | he
    ·exact g2
    ·exact h4 e he
theorem rdRns_d {steps:List (Int × Bool)}{win:Int}{nx:Nat}{wm:Int}{Q:List En.Ev}(hn:nx≤9007199254740992):∀(k:Nat) (acc R:List En.Rn) (l r:List UInt8),l.length≤1000000→rdRns steps win nx wm Q k acc l=some (R,r)→acc.Pairwise (fun a b=>En.lt a b=true) →
  dRns steps win nx wm Q k acc l=some (R,r)∧R.Pairwise (fun a b=>En.lt a b=true):=by
 intro k
 induction k with
 | zero=>
  intro acc R l r _ h p
  rw[rdRns] at h
  cases h
  exact⟨rfl,p⟩
 | succ k ih=>
  intro acc R l r hl h p
  rw[rdRns] at h
  rw[dRns]
  cases e1:rdRun steps win nx wm Q l with
  | none=>simp only[e1] at h;cases h
  | some q=>
   obtain⟨x,r1⟩:=q
   simp only[e1] at h
   have e2:=rdRun_d hn hl e1
   rw[e2]
   simp only[]
   split at h
   ·rename_i ha
    refine ih _ _ _ _ ?_ h (pair_snoc (R:=fun a b=>En.lt a b=true) (fun a b c h1 h2=>En.lt_trans h1 h2) p (fun y hy=>?_))
    ·have:=(dRun_some e2).1
     rw[this,List.length_append] at hl
     omega
    ·unfold okRn at ha
     rw[hy] at ha
     rw[En.lt_cmp]
     exact ha
   ·cases h
theorem ord_of_pair {l:List En.Rn}(h:l.Pairwise (fun a b=>En.lt a b=true)):En.Ord l:=by
 induction l with
 | nil=>trivial
 | cons x t ih=>
  rw[List.pairwise_cons] at h
  exact⟨h.1,ih h.2⟩
theorem inOrd_of_pair {l:List En.Ev}(h:l.Pairwise (fun a b=>En.evLt a b=true)):En.InOrd l:=by
 induction l with
 | nil=>trivial
 | cons x t ih=>
  rw[List.pairwise_cons] at h
  refine⟨fun y hy=>?_,ih h.2⟩
  have:=h.1 y hy
  rw[En.evLt_iff] at this
  rw[En.evLe_iff]
  omega
structure DSt (s:Stt):Prop where
 fine:Pl.Fine s.steps s.win
 w0:-9223372036854775808≤s.wm
 w1:s.wm < 9223372036854775808
 n1:s.nx < 9007199254740992
 q12:s.Q.length≤12
 evs:∀e∈s.Q,EvOk s.steps s.nx s.wm e
 a24:s.R.length≤24
 run:∀x∈s.R,RnOk s.steps s.win s.nx s.wm s.Q x
theorem dState_some {l r:List UInt8}{s:Stt}(h:dState l=some (s,r)):DSt s∧∃tx:List UInt8,tx.length≤60∧Pl.parse ⟨tx.toArray⟩=some (s.steps,s.win)∧l=num tx.length++(tx++(mom s.wm++(num s.nx++(num s.Q.length++(En.evsB s.Q++(num s.R.length++(En.runsB s.R++r))))))):=by
 unfold dState at h
 cases e1:rdB 61 l with
 | none=>simp only[e1] at h;cases h
 | some q1=>
  obtain⟨n,r1⟩:=q1
  simp only[e1] at h
  split at h
  ·cases h
  ·rename_i hn
   cases e2:Pl.parse ⟨(r1.take n).toArray⟩ with
   | none=>simp only[e2] at h;cases h
   | some q2=>
    obtain⟨st,win⟩:=q2
    simp only[e2] at h
    unfold dBody at h
    cases e3:rdM (r1.drop n) with
    | none=>simp only[e3] at h;cases h
    | some q3=>
     obtain⟨wm,r3⟩:=q3
     simp only[e3] at h
     cases e4:rdB 9007199254740992 r3 with
     | none=>simp only[e4] at h;cases h
     | some q4=>
      obtain⟨nx,r4⟩:=q4
      simp only[e4] at h
      cases e5:rdB 13 r4 with
      | none=>simp only[e5] at h;cases h
      | some q5=>
       obtain⟨k,r5⟩:=q5
       simp only[e5] at h
       unfold contQ at h
       cases e6:dEvs st nx wm k [] r5 with
       | none=>simp only[e6] at h;cases h
       | some q6=>
        obtain⟨Q,r6⟩:=q6
        simp only[e6] at h
        cases e7:rdB 25 r6 with
        | none=>simp only[e7] at h;cases h
        | some q7=>
         obtain⟨m,r7⟩:=q7
         simp only[e7] at h
         unfold contR at h
         cases e8:dRns st win nx wm Q m [] r7 with
         | none=>simp only[e8] at h;cases h
         | some q8=>
          obtain⟨R,r8⟩:=q8
          simp only[e8] at h
          cases h
          obtain⟨a1,a2,a3⟩:=rdB_back e1
          obtain⟨c1,c2,c3⟩:=rdM_range e3
          obtain⟨d1,d2,d3⟩:=rdB_back e4
          obtain⟨f1,f2,f3⟩:=rdB_back e5
          obtain⟨t,g1,g2,g3,g4⟩:=dEvs_some _ _ _ _ _ e6
          obtain⟨k1,k2,k3⟩:=rdB_back e7
          obtain⟨u,m1,m2,m3,m4⟩:=dRns_some _ _ _ _ _ e8
          simp only[List.nil_append] at g1 m1
          subst g1 m1
          have htl:(r1.take n).length=n:=by rw[List.length_take];omega
          refine⟨⟨Pl.fine_parse e2,c1,c2,d2,by simp only;omega,g4,by simp only;omega,m4⟩,r1.take n,by omega,e2,?_⟩
          rw[htl]
          simp only[g2,m2]
          rw[← m3,← k1,← g3,← f1,← d1,← c3,List.take_append_drop,← a1]
theorem rdState_d {l r:List UInt8}{s:Stt}(hl:l.length≤1000000)(h:rdState l=some (s,r)):dState l=some (s,r)∧s.Q.Pairwise (fun a b=>En.evLt a b=true)∧(s.Q.map En.Ev.off).Nodup∧s.R.Pairwise (fun a b=>En.lt a b=true) ∧
  l=num (Pl.text s.steps s.win).length++(Pl.text s.steps s.win++(mom s.wm++(num s.nx++(num s.Q.length++(En.evsB s.Q++(num s.R.length++(En.runsB s.R++r))))))):=by
 unfold rdState rdPat at h
 cases e1:rdT l with
 | none=>simp only[e1] at h;cases h
 | some q1=>
  obtain⟨t,r1⟩:=q1
  simp only[e1] at h
  obtain⟨n,q,a1,a2,a3,a4⟩:=rdT_some e1
  have hq:=rd_len a1
  have htl:t.length=n:=by rw[a3,List.length_take];omega
  by_cases h6:60 < t.length
  ·simp only[if_pos h6] at h;cases h
  ·simp only[if_neg h6] at h
   cases e2:Pl.parse ⟨t.toArray⟩ with
   | none=>simp only[e2] at h;cases h
   | some q2=>
    obtain⟨st,win⟩:=q2
    simp only[e2] at h
    by_cases h7:Pl.text st win=t
    ·simp only[if_pos h7] at h
     cases e3:rdM r1 with
     | none=>simp only[e3] at h;cases h
     | some q3=>
      obtain⟨wm,r3⟩:=q3
      simp only[e3] at h
      cases e4:rdB 9007199254740992 r3 with
      | none=>simp only[e4] at h;cases h
      | some q4=>
       obtain⟨nx,r4⟩:=q4
       simp only[e4] at h
       unfold rdWait at h
       cases e5:rdB 13 r4 with
       | none=>simp only[e5] at h;cases h
       | some q5=>
        obtain⟨k,r5⟩:=q5
        simp only[e5] at h
        cases e6:rdEvs st nx wm k [] r5 with
        | none=>simp only[e6] at h;cases h
        | some q6=>
         obtain⟨Q,r6⟩:=q6
         simp only[e6] at h
         unfold rdRuns at h
         cases e7:rdB 25 r6 with
         | none=>simp only[e7] at h;cases h
         | some q7=>
          obtain⟨m,r7⟩:=q7
          simp only[e7] at h
          cases e8:rdRns st win nx wm Q m [] r7 with
          | none=>simp only[e8] at h;cases h
          | some q8=>
           obtain⟨R,r8⟩:=q8
           simp only[e8] at h
           cases h
           have hnx:=(rdB_some e4).2
           obtain⟨g1,g2,g3⟩:=rdEvs_d (by omega) _ _ _ _ _ e6 List.Pairwise.nil (by simp)
           have b1:r1.length≤q.length:=by rw[a4,List.length_drop];omega
           have b3:r3.length≤r1.length:=by have:=(rdM_range e3).2.2;rw[this,List.length_append];omega
           have b4:=rd_len (rdB_some e4).1
           have b5:=rd_len (rdB_some e5).1
           obtain⟨tq,p1,p2,p3,-⟩:=dEvs_some _ _ _ _ _ g1
           have b6:r6.length≤r5.length:=by rw[p3,List.length_append];omega
           have b7:=rd_len (rdB_some e7).1
           obtain⟨m1,m2⟩:=rdRns_d (by omega) _ _ _ _ _ (by omega) e8 List.Pairwise.nil
           have hD:dState l=some (⟨st,win,wm,nx,Q,R⟩,r):=by
            unfold dState
            simp only[rdB_of (b:=61) a1 (by omega)]
            rw[if_neg (by omega),← a3,e2]
            simp only[]
            rw[← a4]
            unfold dBody
            simp only[e3,e4,e5]
            unfold contQ
            simp only[g1,e7]
            unfold contR
            simp only[m1]
           refine⟨hD,g2,g3,m2,?_⟩
           obtain⟨u,n1,n2,n3,-⟩:=dRns_some _ _ _ _ _ m1
           simp only[List.nil_append] at p1 n1
           subst p1 n1
           simp only[p2,n2]
           rw[← n3,← (rdB_back e7).1,← p3,← (rdB_back e5).1,← (rdB_back e4).1,← (rdM_range e3).2.2,h7,a3,a4,List.take_append_drop,← a3,htl]
           exact (rd_back a1).1
    ·simp only[if_neg h7] at h;cases h
def dLoad (l:List UInt8):Option Stt:=
 match sound l 83 with
 | none=>none
 | some c=>
  match dState c with
  | some (s,[])=>if (s.Q.map En.Ev.off).Nodup∧framed (En.stateB (Pl.text s.steps s.win) s.wm s.nx s.Q (En.under ⟨s.steps,s.win⟩ [] s.R s.wm (s.win - 1)))=l then some s else none
  | _=>none
theorem under_sub {P:En.Pat}{old:List En.Rn}{W m:Int}:(∀x∈En.under P [] old W m,x∈old)∧(En.under P [] old W m).length≤old.length:=by
 unfold En.under
 constructor
 ·intro x hx
  rcases En.mem_puts_sub hx with h | h
  ·cases h
  ·exact (List.mem_filter.1 h).1
 ·refine Nat.le_trans (En.puts_le _ _) ?_
  simpa using List.length_filter_le _ old
theorem goes_of {P:En.Pat}{s:Nat}(hs:s < P.steps.length)(h:goesOn P.steps s=true):En.goes P s=true:=by
 unfold goesOn at h
 unfold En.goes En.plusAt
 rw[List.getD_eq_getElem?_getD,List.getElem?_eq_getElem hs] at h
 rw[List.getElem?_eq_getElem hs]
 simp only[Option.getD_some,Bool.or_eq_true,Bool.not_eq_true',decide_eq_false_iff_not] at h
 simp only[Option.map_some,Option.getD_some,Bool.or_eq_true,decide_eq_true_eq]
 rcases h with h | h
 ·exact Or.inl (by omega)
 ·exact Or.inr h
theorem loadOf_sound {l c:List UInt8}(h:sound l 83=some c):loadOf l=match rdState c with
  | some (s,[])=>some s
  | _=>none:=by
 have h2:(l.take (l.length - 4)).drop 1=c:=by
  rw[sound_iff] at h
  subst h
  simp[framed,sum_length]
 unfold loadOf
 rw[h]
 simp only[h2]
 all_goals rfl
theorem dLoad_some {l:List UInt8}{s:Stt}(hl:l.length≤1000000)(h:dLoad l=some s):∃t,loadOf l=some t:=by
 unfold dLoad at h
 cases hs:sound l 83 with
 | none=>simp only[hs] at h;cases h
 | some c=>
  simp only[hs] at h
  split at h
  ·rename_i s' e1
   split at h
   ·rename_i hc
    cases h
    obtain⟨D,tx,t1,t2,t3⟩:=dState_some e1
    obtain⟨u1,u2⟩:=under_sub (P:=⟨s.steps,s.win⟩) (old:=s.R) (W:=s.wm) (m:=s.win - 1)
    have hcl:c.length≤1000000:=by
     have:=sound_iff.1 hs
     rw[this] at hl
     simp[framed] at hl
     omega
    have L:LdOk ⟨s.steps,s.win⟩ s.wm s.nx s.Q (En.under ⟨s.steps,s.win⟩ [] s.R s.wm (s.win - 1)):=by
     refine⟨D.fine,D.w0,D.w1,by omega,by have:=D.n1;omega,D.q12,hc.1,fun e he=>?_,by have:=D.a24;omega,En.ord_under _ _ _ _ _,fun x hx=>?_⟩
     ·have h1:=D.evs e he
      exact⟨h1.o0,h1.o1,h1.k0,h1.k1,h1.has,h1.t0,h1.t1⟩
     ·have h1:=D.run x (u1 x hx)
      refine⟨h1.st,goes_of (P:=⟨s.steps,s.win⟩) h1.st h1.go,?_,h1.offs,h1.fit,h1.nd,h1.t0,h1.t1,h1.far⟩
      obtain⟨ra,rb,hr⟩:=List.append_of_mem (u1 x hx)
      have h2:=offsB_len x.offs
      have h3:(En.offsB x.offs).length≤(En.runsB s.R).length:=by
       rw[hr]
       simp only[En.runsB,List.flatMap_append,List.flatMap_cons,En.runB,List.length_append]
       omega
      have h4:(En.runsB s.R).length≤c.length:=by
       rw[t3]
       simp only[List.length_append]
       omega
      omega
    have h1:=rdState_back L
    have h2:c=(En.stateB (Pl.text s.steps s.win) s.wm s.nx s.Q (En.under ⟨s.steps,s.win⟩ [] s.R s.wm (s.win - 1))).drop 1:=by
     have h3:=sound_iff.1 hs
     have h4:=hc.2
     rw[h3] at h4
     unfold framed at h4
     have h5:=List.append_inj_left' h4 (by simp[sum_length])
     rw[h5]
     simp
    rw[loadOf_sound hs,h2,h1]
    exact⟨_,rfl⟩
   ·cases h
  ·cases h
theorem loadOf_some {l:List UInt8}{s:Stt}(hl:l.length≤1000000)(h:loadOf l=some s):dLoad l=some s∧DSt s∧En.stateB (Pl.text s.steps s.win) s.wm s.nx s.Q s.R=l.take (l.length - 4)∧framed (En.stateB (Pl.text s.steps s.win) s.wm s.nx s.Q s.R)=l∧s.Q.Pairwise (fun a b=>En.evLt a b=true)∧(s.Q.map En.Ev.off).Nodup∧En.Ord s.R:=by
 cases hs:sound l 83 with
 | none=>unfold loadOf at h;simp only[hs] at h;cases h
 | some c=>
  rw[loadOf_sound hs] at h
  have hf:=sound_iff.1 hs
  split at h
  ·rename_i s' e1
   cases h
   have hcl:c.length≤1000000:=by
    rw[hf] at hl
    simp[framed] at hl
    omega
   obtain⟨d1,d2,d3,d4,d5⟩:=rdState_d hcl e1
   obtain⟨D,-⟩:=dState_some d1
   have hO:=ord_of_pair d4
   have hU:En.under ⟨s.steps,s.win⟩ [] s.R s.wm (s.win - 1)=s.R:=En.under_oldL (P:=⟨s.steps,s.win⟩) hO (fun x hx=>(D.run x hx).far)
   have hQ:=En.sortEv_of_ord (inOrd_of_pair d2) d3
   have hB:En.stateB (Pl.text s.steps s.win) s.wm s.nx s.Q s.R=83::c:=by
    rw[d5]
    simp[En.stateB,En.headB,hQ]
   have hF:framed (En.stateB (Pl.text s.steps s.win) s.wm s.nx s.Q s.R)=l:=by rw[hB,hf]
   refine⟨?_,D,?_,hF,d2,d3,hO⟩
   ·unfold dLoad
    simp only[hs,d1]
    rw[if_pos ⟨d3,by rw[hU];exact hF⟩]
   ·rw[hB,hf]
    simp[framed,sum_length]
  ·cases h
theorem load_none {l:List UInt8}(hl:l.length≤1000000):loadOf l=none↔dLoad l=none:=by
 constructor
 ·intro h
  cases e:dLoad l with
  | none=>rfl
  | some s=>
   obtain⟨t,ht⟩:=dLoad_some hl e
   rw[h] at ht
   cases ht
 ·intro h
  cases e:loadOf l with
  | none=>rfl
  | some s=>
   have:=(loadOf_some hl e).1
   rw[h] at this
   cases this
theorem flat_sub {α β:Type}(f:α→List β):∀(U R:List α),U.Nodup→(∀x∈U,x∈R)→(U.flatMap f).length≤(R.flatMap f).length:=by
 intro U
 induction U with
 | nil=>intro R _ _;simp
 | cons x t ih=>
  intro R h1 h2
  rw[List.nodup_cons] at h1
  obtain⟨a,b,hr⟩:=List.append_of_mem (h2 x List.mem_cons_self)
  have h3:=ih (a++b) h1.2 (fun y hy=>by
   have h4:=h2 y (List.mem_cons_of_mem _ hy)
   rw[hr] at h4
   rcases List.mem_append.1 h4 with h5 | h5
   ·exact List.mem_append.2 (Or.inl h5)
   ·rcases List.mem_cons.1 h5 with rfl | h5
    ·exact absurd hy h1.1
    ·exact List.mem_append.2 (Or.inr h5))
  rw[hr]
  simp only[List.flatMap_append,List.flatMap_cons,List.length_append] at h3 ⊢
  omega
end Fr
end Go.Proofs.YtfldcmdhneegmaaGreatDoor
namespace Go.Proofs.YtfldcmdhneegmaaGreatDoor
open Go.RowKit Go.Lib
namespace Fr
theorem nodup_of_map {α β:Type}{f:α→β}{l:List α}(h:(l.map f).Nodup):l.Nodup:=by
 unfold List.Nodup at h ⊢
 rw[List.pairwise_map] at h
 exact h.imp (fun h e=>h (by rw[e]))
theorem ord_nodup {l:List En.Rn}(h:En.Ord l):l.Nodup:=by
 induction l with
 | nil=>simp
 | cons x t ih=>
  rw[List.nodup_cons]
  refine⟨fun hx=>?_,ih h.2⟩
  have:=h.1 x hx
  rw[En.lt_irrefl] at this
  cases this
theorem svt_of {c:List UInt8}{s:Stt}(hc:c.length≤900000)(h:dState c=some (s,[]))(hn:(s.Q.map En.Ev.off).Nodup):SvT ⟨s.steps,s.win⟩ s.wm s.nx s.Q (En.under ⟨s.steps,s.win⟩ [] s.R s.wm (s.win - 1)):=by
 obtain⟨D,tx,t1,t2,t3⟩:=dState_some h
 obtain⟨u1,u2⟩:=under_sub (P:=⟨s.steps,s.win⟩) (old:=s.R) (W:=s.wm) (m:=s.win - 1)
 have hO:=En.ord_under ⟨s.steps,s.win⟩ [] s.R s.wm (s.win - 1)
 generalize En.under ⟨s.steps,s.win⟩ [] s.R s.wm (s.win - 1)=U at *
 have l4:=D.fine.l4
 have n1:=D.n1
 have w0:=D.w0
 have w1:=D.w1
 have q12:=D.q12
 have a24:=D.a24
 refine⟨D.fine,D.q12,fun e he=>?_,D.w0,D.w1,by omega,by omega,fun x hx=>?_,?_⟩
 ·have k:=D.evs e he
  have k1:=k.o0
  have k2:=k.o1
  have k3:=k.k0
  have k4:=k.k1
  have k5:=k.t0
  have k6:=k.t1
  exact⟨k1,by omega,k3,by omega,by omega,k6⟩
 ·have k:=D.run x (u1 x hx)
  have k1:=k.st
  have k2:=k.t0
  have k3:=k.t1
  exact⟨by omega,k2,by omega,fun o ho=>⟨(k.offs o ho).1,by have:=(k.offs o ho).2.1;omega⟩⟩
 ·have hp:=En.sortEv_perm s.Q
  have hq:=nodup_of_map hn
  have f1:=flat_sub En.evB (En.sortEv s.Q) s.Q (hp.nodup_iff.2 hq) (fun x hx=>hp.mem_iff.1 hx)
  have f2:=flat_sub En.runB U s.R (ord_nodup hO) u1
  have f3:c.length=(num tx.length).length+(tx.length+((mom s.wm).length+((num s.nx).length+((num s.Q.length).length+((En.evsB s.Q).length+((num s.R.length).length+(En.runsB s.R).length)))))):=by
   conv=>lhs;rw[t3]
   simp only[List.length_append,List.length_nil,Nat.add_zero]
  have g1:=num_length64 (n:=(Pl.text s.steps s.win).length) (by have:=Pl.text_length s.steps s.win D.fine;omega)
  have g2:=Pl.text_length s.steps s.win D.fine
  have g3:=num_length64 (n:=zig s.wm) (zig_lt w0 w1)
  have g4:=num_length64 (n:=((s.nx:Nat):Int).toNat) (by omega)
  have g5:=num_length64 (n:=s.Q.length) (by omega)
  have g6:=num_length64 (n:=U.length) (by omega)
  simp only[En.stateB,En.headB,List.length_append,List.length_cons,mom,En.evsB,En.runsB] at f1 f2 f3 ⊢
  omega
theorem dState_bad1 {c r:List UInt8}{n:Nat}(h:StS (nextS 60 false c) n r true):dState c=none:=by
 rcases nextS_ok h with ⟨-,e⟩ | ⟨e,-⟩
 ·unfold dState
  simp only[show (61:Nat)=60+1 from rfl,e]
 ·cases e
theorem dState_two {c r:List UInt8}{n:Nat}(h:StS (nextS 60 false c) n r false):n≤60∧dState c=if r.length < n then none else
   match Pl.parse ⟨(r.take n).toArray⟩ with
   | none=>none
   | some (st,win)=>dBody st win (r.drop n):=by
 rcases nextS_ok h with ⟨e,-⟩ | ⟨-,e⟩
 ·cases e
 ·have:=(rdB_some e).2
  refine⟨by omega,?_⟩
  unfold dState
  simp only[show (61:Nat)=60+1 from rfl,e]
  all_goals rfl
theorem dLoad_unsound {l:List UInt8}(h:sound l 83=none):dLoad l=none:=by
 unfold dLoad
 simp only[h]
theorem dLoad_bad {l c:List UInt8}(h:sound l 83=some c)(h2:dState c=none):dLoad l=none:=by
 unfold dLoad
 simp only[h,h2]
theorem dLoad_more {l c r:List UInt8}{s:Stt}(h:sound l 83=some c)(h2:dState c=some (s,r))(hr:r≠[]):dLoad l=none:=by
 unfold dLoad
 simp only[h,h2]
 split
 ·rename_i e
  cases e
  exact absurd rfl hr
 ·rfl
theorem dLoad_end {l c:List UInt8}{s:Stt}(h:sound l 83=some c)(h2:dState c=some (s,[])):dLoad l=if (s.Q.map En.Ev.off).Nodup∧framed (En.stateB (Pl.text s.steps s.win) s.wm s.nx s.Q (En.under ⟨s.steps,s.win⟩ [] s.R s.wm (s.win - 1)))=l then some s else none:=by
 unfold dLoad
 simp only[h,h2]
theorem sound_length {l c:List UInt8}(h:sound l 83=some c):l.length=c.length+5:=by
 rw[sound_iff] at h
 rw[h]
 simp[framed,sum_length]
end Fr
def DLoadEnd (l:List UInt8)(w:World)(e:Ending)(w':World):Prop:=
 Below w.heap.size w w'∧((Fr.dLoad l=none∧e=.returned (.pointer none))∨(∃s b,Fr.dLoad l=some s∧e=.returned (.pointer (some ⟨b,0,none⟩))))
theorem str_toN (t:List UInt8)(i:Int)(k:Nat)(hi:i=k)(hk:k≤t.length)(w:World):(Instr.slice 9 (.string ⟨t.toArray⟩) none (some (.int .u64 i)) none).run Tryz.prog w=.ok (.string ⟨(t.take k).toArray⟩) w:=by
 subst hi
 have hs:(⟨t.toArray⟩:ByteArray).size=t.length:=by simp[ByteArray.size]
 rw[run_slice_string_to_if (P:=Tryz.prog) w 9 ⟨t.toArray⟩ .u64 k Tryz.underlying9]
 simp[hs,hk,ByteArray.extract_mk]
theorem str_fromN (t:List UInt8)(i:Int)(k:Nat)(hi:i=k)(hk:k≤t.length)(w:World):(Instr.slice 9 (.string ⟨t.toArray⟩) (some (.int .u64 i)) none none).run Tryz.prog w=.ok (.string ⟨(t.drop k).toArray⟩) w:=by
 subst hi
 have hs:(⟨t.toArray⟩:ByteArray).size=t.length:=by simp[ByteArray.size]
 rw[run_slice_string_from_if (P:=Tryz.prog) w 9 ⟨t.toArray⟩ .u64 k Tryz.underlying9]
 simp[hs,hk,ByteArray.extract_mk]
 exact List.take_of_length_le (by simp)
theorem rSound_S (l:List UInt8)(w:World)(hl:l.length≤1000000):Calls Tryz.prog 34 #[.string ⟨l.toArray⟩,.int .u8 83] w (SoundEnd l 83 w):=rSound_any l 83 w hl
theorem DL.start {w W2 w3 w4:World}{rb:Nat}{st:List (Int × Bool)}{win:Int}{vs:Value}{r1 r2:List UInt8}(hb:Below w.heap.size w W2)(hr:w.heap.size≤rb)(hrd:RdrAt W2 rb r1 false)(hp:PRel W2 w3 st vs win)(hk:But rb w3 w4)(hr4:RdrAt w4 rb r2 false) :
  DL w (w4.alloc (.cells #[.pointer (some ⟨W2.heap.size,0,none⟩),.int .i64 (-9223372036854775808),.int .i64 0,.slice none 0 0,.slice none 0 0,.slice none 0 0] 86)) rb w4.heap.size W2.heap.size ⟨st,win⟩ (-9223372036854775808) 0 vs (.slice none 0 0) (.slice none 0 0) [] [] r2 false:=by
 have hlt:rb < W2.heap.size:=lt_of_block hrd
 have hal:Below w4.heap.size w4 (w4.alloc (.cells #[.pointer (some ⟨W2.heap.size,0,none⟩),.int .i64 (-9223372036854775808),.int .i64 0,.slice none 0 0,.slice none 0 0,.slice none 0 0] 86)):=(Below.refl _ _).alloc (Nat.le_refl _) _
 have hpb:w4.heap[W2.heap.size]?=some (.cells #[vs,.int .i64 win] 99 (0,0)):=(hk.block _ hp.lt (by simp;omega)).trans hp.blk
 have how:w4.ownsRow (W2.heap.size+1) 104 2 vs st.length (stepCells st):=own_keep hp.own (hk.keep (D:=fun k=>k=rb) rfl) (fun k h1 e=>by omega)
 have hs1:=hb.size
 have hs2:=hp.bel.size
 have hs3:=hk.size
 refine⟨(hal.block _ (lt_of_block hr4)).trans hr4,heap_alloc_new w4 _,(hal.block _ (lt_of_block hpb)).trans hpb,own_mono (own_below how hal) (by omega),own_nil _ _ _ _,own_nil _ _ _ _,fun y hy=>(by cases hy),?_,hr,by omega⟩
 refine⟨hal.os.trans (hk.os.trans (hp.bel.os.trans hb.os)),hal.tape.trans (hk.tape.trans (hp.bel.tape.trans hb.tape)),hal.output.trans (hk.output.trans (hp.bel.output.trans hb.output)),by have:=hal.size;omega,fun k h1=>?_⟩
 exact (hal.block k (by omega)).trans ((hk.block k (by omega) (by simp;omega)).trans ((hp.bel.block k (by omega)).trans (hb.block k h1)))
theorem DL.pushB {w W W' V:World}{rb eb pb:Nat}{P:En.Pat}{wm nx:Int}{vs vw vo y':Value}{Q:List En.Ev}{old:List RV}{r:List UInt8}{x:Bool}(h:DL w W rb eb pb P wm nx vs vw vo Q old r x)(hV:Below W.heap.size W V)(gr:V.grownBy W' vo.ownBlock) :
  W'.cell? ⟨eb,5,none⟩=some vo∧W'.frozen? ⟨eb,5,none⟩=false∧RdrAt (W'.setCell ⟨eb,5,none⟩ y') rb r x∧Below w.heap.size w (W'.setCell ⟨eb,5,none⟩ y'):=by
 have hk1:Keep (fun k=>vo.ownBlock=some k) W W':=⟨gr.os.trans hV.os,gr.tape.trans hV.tape,gr.output.trans hV.output,Nat.le_trans hV.size gr.size,fun k hk hn=>(gr.block k (Nat.lt_of_lt_of_le hk hV.size) (fun e=>hn e.symm)).trans (hV.block k hk)⟩
 have he:W'.heap[eb]?=some (.cells #[.pointer (some ⟨pb,0,none⟩),.int .i64 wm,.int .i64 nx,vw,.slice none 0 0,vo] 86 (0,0)):=(hk1.block eb (lt_of_block h.blk) h.ro.2).trans h.blk
 obtain⟨-,-,-,-,-,c5,cf⟩:=eng_cells he
 have hs:=but_set W' eb 5 y'
 refine⟨c5,cf 5,(hs.block rb (Nat.lt_of_lt_of_le (lt_of_block h.rd) hk1.size) (by simpa using h.rne)).trans ((hk1.block rb (lt_of_block h.rd) h.ro.1).trans h.rd),?_⟩
 have b1:=h.bel.size
 have b2:=hk1.size
 have b3:=h.ne
 refine⟨hs.os.trans (hk1.os.trans h.bel.os),hs.tape.trans (hk1.tape.trans h.bel.tape),hs.output.trans (hk1.output.trans h.bel.output),by have:=hs.size;omega,fun k h1=>?_⟩
 refine (hs.block k (by omega) (by simp;omega)).trans ((hk1.block k (by omega) (fun e=>?_)).trans (h.bel.block k h1))
 have:=(own_block h.row k e).1
 omega
end Go.Proofs.YtfldcmdhneegmaaGreatDoor

import Derived.Test.YtfldcmdhneegmaaGreatDoorY01
import Derived.OwnWalk
import Derived.Lib.AppendZerosOnto
import Derived.Lib.SliceRun
set_option maxHeartbeats 4000000
set_option maxRecDepth 1000000
namespace Go.Proofs.YtfldcmdhneegmaaGreatDoor
open Go.RowKit Go.Lib
theorem Tryz.infoCcR:(Tryz.prog.info? 164).map (fun i=>(i.zero,i.size,i.bytes))=some (some (.agg #[.int .i64 0,.slice none 0 0,.int .i64 0]),3,40):=by kernel_rfl
theorem Tryz.infoCcI:(Tryz.prog.info? 3).map (fun i=>(i.zero,i.size,i.bytes))=some (some (.int .i64 0),1,8):=by kernel_rfl
theorem two_of {W:World}{b:Nat}{x y:Value}{t:TypeId}(h:W.heap[b]?=some (.cells #[x,y] t (0,0))):W.cell? ⟨b,0,none⟩=some x∧W.cell? ⟨b,1,none⟩=some y:=by
 simp[World.cell?,h]
theorem growR_nil (n:Nat)(w:World)(hn:n≤2000000) :
  Calls Tryz.prog 176 #[.slice none 0 0,.int .i64 n] w fun e w'=>∃v,e=.returned v∧w'.ownsRow w.heap.size 164 3 v 0 []∧Below w.heap.size w w'∧(n=0→v=.slice none 0 0):=by
 obtain⟨i0,hi,hz0,hz1,hz2⟩:=info_parts Tryz.infoCcR
 by_cases h0:n=0
 ·subst h0
  go_enter Tryz.func176,Tryz.ntmps176
  go_wp2
  go_ret
  exact⟨_,rfl,World.ownsRow_nil _ _ _ _,Below.refl _ _,fun _=>rfl⟩
 ·have h0':(0:Int) < (n:Int):=by omega
  have hold:=run_firstCells_none (P:=Tryz.prog) w.drew 3 0 0 0
  have hrz:∀ty,(Builtin.append_ #[157,3] ty #[.slice none 0 0,.int .i64 n]).run Tryz.prog w =
    .ok (.slice (some ⟨w.heap.size,0,none⟩) n (grownCap w n 0 164)) (w.drew.alloc (.cells (Builtin.zeroCells #[.int .i64 0,.slice none 0 0,.int .i64 0] n++Builtin.zeroCells #[.int .i64 0,.slice none 0 0,.int .i64 0] (grownCap w n 0 164 - n)) 164)):=fun ty=>by
   have h:=Lib.run_append_grow_zeros (P:=Tryz.prog) w 157 3 ty 164 i0 (.agg #[.int .i64 0,.slice none 0 0,.int .i64 0]) .i64 .i64 Tryz.underlying157 Tryz.underlying3 hi hz0 none 0 0 [] (by rw[hz1];exact hold) n (by omega) (by omega) (by omega) (by omega) (by rw[hz2];omega) (by rw[hz2,Nat.zero_add];exact growslice_fits (by omega) (by omega))
   simpa [Value.cells] using h
  have hge:n≤grownCap w n 0 164:=grownCap_ge w _ _ _
  have hmx:grownCap w n 0 164≤maxLen:=grownCap_le_maxLen w n 0 164 (by unfold maxLen;omega)
  obtain⟨G,hG⟩:∃G,G=grownCap w n 0 164:=⟨_,rfl⟩
  rw[← hG] at hrz hge hmx
  clear hold hG
  have hmx':G≤9223372036854775807:=by unfold maxLen at hmx;omega
  go_enter Tryz.func176,Tryz.ntmps176
  go_wp2_with (at_builtin;refine Lib.wpList_append_run _ rfl _ _ _ _ rfl _ _ rfl rfl _ _ (hrz _) ?_)
  go_ret
  refine⟨_,rfl,?_,?_,fun h=>absurd h h0⟩
  ·refine⟨by simp,Or.inr ⟨w.heap.size,G,_,rfl,Nat.le_refl _,new_at (w:=w.drew) rfl,Nat.zero_le _,hmx,?_,by simp⟩⟩
   simp[Builtin.zeroCells]
   omega
  ·exact (Below.drew (Below.refl _ w)).alloc (Nat.le_refl _) _
theorem concatR_two (F G:Nat→Prop)(g:Nat)(x y:Value)(n m:Nat)(a b:List Value)(w:World)(hg:w.heap[g]?=some (.cells #[x,y] 157 (0,0)))(hx:RowAt F w x 3 n a)(hy:RowAt G w y 3 m b)(ha:∀u∈a,u.oneCell'=true)(hb:∀u∈b,u.oneCell'=true)(hl:n+m≤2000000) :
  Calls Tryz.prog 107 #[.slice (some ⟨g,0,none⟩) 2 2] w fun e w'=>∃v,e=.returned v∧w'.ownsRow w.heap.size 164 3 v (n+m) (a++b)∧Below w.heap.size w w':=by
 obtain⟨ax,cx,rfl,-,-⟩:=RowAt.slice hx
 obtain⟨ay,cy,rfl,-,-⟩:=RowAt.slice hy
 obtain⟨c0,c1⟩:=two_of hg
 obtain⟨i0,hi,hz0,hz1,hz2⟩:=info_parts Tryz.infoCcR
 have HG:=hid (growR_nil (n+m) w hl)
 have H:=hid (And.intro hg (And.intro hx (And.intro hy (And.intro ha hb))))
 clear hg hx hy ha hb
 go_enter Tryz.func107,Tryz.ntmps107
 go_wp2
 refine wp_loop_rounds 3 ?_
 rw[rounds_succ]
 go_wp2
 rw[rounds_succ]
 go_wp2
 rw[rounds_succ]
 go_wp2_with (go_at_call 176;refine HG.out.mono ?_;rintro e w1 ⟨v,rfl,ho,hb,-⟩;have HB:=hid (And.intro ho hb);clear ho hb)
 obtain⟨c0',c1'⟩:=two_of ((HB.out.2.block g (lt_of_block H.out.1)).trans H.out.1)
 refine wp_loop_rounds 3 ?_
 rw[rounds_succ]
 go_wp2_with (at_builtin;refine wpList_append_row rfl _ _ 157 rfl w.heap.size 164 i0 (.agg #[.int .i64 0,.slice none 0 0,.int .i64 0]) 3 40 Tryz.underlying157 hi hz0 hz1 hz2 rfl (by decide) _ _ _ rfl HB.out.1 F _ n a rfl (H.out.2.1.below HB.out.2) H.out.2.2.2.1 (by unfold maxLen;omega) (by omega) HB.out.2.size ?_)
 intro v2 w2 ho2 hg2
 have hb2:Below w.heap.size w w2:=HB.out.2.grown hg2 HB.out.2.size (fun k hk=>(own_block HB.out.1 k hk).1)
 obtain⟨c0'',c1''⟩:=two_of ((hb2.block g (lt_of_block H.out.1)).trans H.out.1)
 have HB2:=hid (And.intro ho2 hb2)
 clear ho2 hg2 hb2
 go_wp2
 rw[rounds_succ]
 go_wp2_with (at_builtin;refine wpList_append_row rfl _ _ 157 rfl w.heap.size 164 i0 (.agg #[.int .i64 0,.slice none 0 0,.int .i64 0]) 3 40 Tryz.underlying157 hi hz0 hz1 hz2 rfl (by decide) _ _ _ rfl HB2.out.1 G _ m b rfl (H.out.2.2.1.below HB2.out.2) H.out.2.2.2.2 (by unfold maxLen;omega) (by omega) HB2.out.2.size ?_)
 intro v3 w3 ho3 hg3
 have hb3:Below w.heap.size w w3:=HB2.out.2.grown hg3 HB2.out.2.size (fun k hk=>(own_block HB2.out.1 k hk).1)
 have HB3:=hid (And.intro ho3 hb3)
 clear ho3 hg3 hb3
 go_wp2
 rw[rounds_succ]
 go_wp2
 go_ret
 refine⟨_,rfl,?_,HB3.out.2⟩
 have h:=HB3.out.1
 simpa using h
theorem growI_nil (n:Nat)(w:World)(hn:n≤2000000) :
  Calls Tryz.prog 253 #[.slice none 0 0,.int .i64 n] w fun e w'=>∃v,e=.returned v∧w'.ownsRow w.heap.size 3 1 v 0 []∧Below w.heap.size w w'∧(n=0→v=.slice none 0 0):=by
 obtain⟨i0,hi,hz0,hz1,hz2⟩:=info_parts Tryz.infoCcI
 by_cases h0:n=0
 ·subst h0
  go_enter Tryz.func253,Tryz.ntmps253
  go_wp2
  go_ret
  exact⟨_,rfl,World.ownsRow_nil _ _ _ _,Below.refl _ _,fun _=>rfl⟩
 ·have h0':(0:Int) < (n:Int):=by omega
  have hold:=run_firstCells_none (P:=Tryz.prog) w.drew 1 0 0 0
  have hrz:∀ty,(Builtin.append_ #[90,3] ty #[.slice none 0 0,.int .i64 n]).run Tryz.prog w =
    .ok (.slice (some ⟨w.heap.size,0,none⟩) n (grownCap w n 0 3)) (w.drew.alloc (.cells (Builtin.zeroCells #[.int .i64 0] n++Builtin.zeroCells #[.int .i64 0] (grownCap w n 0 3 - n)) 3)):=fun ty=>by
   have h:=Lib.run_append_grow_zeros (P:=Tryz.prog) w 90 3 ty 3 i0 (.int .i64 0) .i64 .i64 Tryz.underlying90 Tryz.underlying3 hi hz0 none 0 0 [] (by rw[hz1];exact hold) n (by omega) (by omega) (by omega) (by omega) (by rw[hz2];omega) (by rw[hz2,Nat.zero_add];exact growslice_fits (by omega) (by omega))
   simpa [Value.cells] using h
  have hge:n≤grownCap w n 0 3:=grownCap_ge w _ _ _
  have hmx:grownCap w n 0 3≤maxLen:=grownCap_le_maxLen w n 0 3 (by unfold maxLen;omega)
  obtain⟨G,hG⟩:∃G,G=grownCap w n 0 3:=⟨_,rfl⟩
  rw[← hG] at hrz hge hmx
  clear hold hG
  have hmx':G≤9223372036854775807:=by unfold maxLen at hmx;omega
  go_enter Tryz.func253,Tryz.ntmps253
  go_wp2_with (at_builtin;refine Lib.wpList_append_run _ rfl _ _ _ _ rfl _ _ rfl rfl _ _ (hrz _) ?_)
  go_ret
  refine⟨_,rfl,?_,?_,fun h=>absurd h h0⟩
  ·refine⟨by simp,Or.inr ⟨w.heap.size,G,_,rfl,Nat.le_refl _,new_at (w:=w.drew) rfl,Nat.zero_le _,hmx,?_,by simp⟩⟩
   simp[Builtin.zeroCells]
   omega
  ·exact (Below.drew (Below.refl _ w)).alloc (Nat.le_refl _) _
theorem concatI_two (F G:Nat→Prop)(g:Nat)(x y:Value)(n m:Nat)(a b:List Value)(w:World)(hg:w.heap[g]?=some (.cells #[x,y] 90 (0,0)))(hx:RowAt F w x 1 n a)(hy:RowAt G w y 1 m b)(ha:∀u∈a,u.oneCell'=true)(hb:∀u∈b,u.oneCell'=true)(hl:n+m≤2000000) :
  Calls Tryz.prog 221 #[.slice (some ⟨g,0,none⟩) 2 2] w fun e w'=>∃v,e=.returned v∧w'.ownsRow w.heap.size 3 1 v (n+m) (a++b)∧Below w.heap.size w w':=by
 obtain⟨ax,cx,rfl,-,-⟩:=RowAt.slice hx
 obtain⟨ay,cy,rfl,-,-⟩:=RowAt.slice hy
 obtain⟨c0,c1⟩:=two_of hg
 obtain⟨i0,hi,hz0,hz1,hz2⟩:=info_parts Tryz.infoCcI
 have HG:=hid (growI_nil (n+m) w hl)
 have H:=hid (And.intro hg (And.intro hx (And.intro hy (And.intro ha hb))))
 clear hg hx hy ha hb
 go_enter Tryz.func221,Tryz.ntmps221
 go_wp2
 refine wp_loop_rounds 3 ?_
 rw[rounds_succ]
 go_wp2
 rw[rounds_succ]
 go_wp2
 rw[rounds_succ]
 go_wp2_with (go_at_call 253;refine HG.out.mono ?_;rintro e w1 ⟨v,rfl,ho,hb,-⟩;have HB:=hid (And.intro ho hb);clear ho hb)
 obtain⟨c0',c1'⟩:=two_of ((HB.out.2.block g (lt_of_block H.out.1)).trans H.out.1)
 refine wp_loop_rounds 3 ?_
 rw[rounds_succ]
 go_wp2_with (at_builtin;refine wpList_append_row rfl _ _ 90 rfl w.heap.size 3 i0 (.int .i64 0) 1 8 Tryz.underlying90 hi hz0 hz1 hz2 rfl (by decide) _ _ _ rfl HB.out.1 F _ n a rfl (H.out.2.1.below HB.out.2) H.out.2.2.2.1 (by unfold maxLen;omega) (by omega) HB.out.2.size ?_)
 intro v2 w2 ho2 hg2
 have hb2:Below w.heap.size w w2:=HB.out.2.grown hg2 HB.out.2.size (fun k hk=>(own_block HB.out.1 k hk).1)
 obtain⟨c0'',c1''⟩:=two_of ((hb2.block g (lt_of_block H.out.1)).trans H.out.1)
 have HB2:=hid (And.intro ho2 hb2)
 clear ho2 hg2 hb2
 go_wp2
 rw[rounds_succ]
 go_wp2_with (at_builtin;refine wpList_append_row rfl _ _ 90 rfl w.heap.size 3 i0 (.int .i64 0) 1 8 Tryz.underlying90 hi hz0 hz1 hz2 rfl (by decide) _ _ _ rfl HB2.out.1 G _ m b rfl (H.out.2.2.1.below HB2.out.2) H.out.2.2.2.2 (by unfold maxLen;omega) (by omega) HB2.out.2.size ?_)
 intro v3 w3 ho3 hg3
 have hb3:Below w.heap.size w w3:=HB2.out.2.grown hg3 HB2.out.2.size (fun k hk=>(own_block HB2.out.1 k hk).1)
 have HB3:=hid (And.intro ho3 hb3)
 clear ho3 hg3 hb3
 go_wp2
 rw[rounds_succ]
 go_wp2
 go_ret
 refine⟨_,rfl,?_,HB3.out.2⟩
 have h:=HB3.out.1
 simpa using h
end Go.Proofs.YtfldcmdhneegmaaGreatDoor

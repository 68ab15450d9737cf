import Derived.Test.YtfldcmdhneegmaaGreatDoorX22
import Derived.Defers
import Derived.Recover
set_option maxHeartbeats 4000000
set_option maxRecDepth 1000000
namespace Go.Proofs.YtfldcmdhneegmaaGreatDoor
open Go.RowKit Go.Lib
theorem readE1_idle (p:Addr)(w:World) :
  CallsD Tryz.prog 111 #[.pointer (some p)] .returning w fun e u' w'=>e=.returned (.tuple #[])∧u'=.returning∧w'=w:=by
 refine callsD_of_wpS Tryz.func111 rfl fun c₀ cs hu=>?_
 apply wpS_seq
 apply wpS_region
 simp[wpOpsS,go_sem,recoverD,hu,Tryz.ntmps111,Exit.thenS]
 refine wpS_of_wp ?_
 go_wp2
 cases c₀
 simp_all [bodyPostS,results,Tryz.results111]
theorem Tryz.assertBytesE (v:Value)(w:World):(Instr.typeAssert (.iface 139 v) 20 139 true).run Tryz.prog w=.ok (.tuple #[v,.bool true]) w:=by kernel_rfl
theorem readE1_caught (pb:Nat)(n:Int)(s:ByteArray)(older:List PanicEntry)(w:World)(u0:Value)(hc:w.cell? ⟨pb,0,none⟩=some u0)(hz:w.frozen? ⟨pb,0,none⟩=false) :
  CallsD Tryz.prog 111 #[.pointer (some ⟨pb,0,none⟩)] (.panicking ({ v:=.iface 139 (.agg #[.int .i64 n,.string s]),recovered:=false }::older)) w fun e u' w'=>
   e=.returned (.tuple #[])∧u'=.panicking ({ v:=.iface 139 (.agg #[.int .i64 n,.string s]),recovered:=true }::older)∧∃o,w'=(w.setCell ⟨pb,0,none⟩ (.iface 139 (.agg #[.int .i64 n,.string s]))).alloc o:=by
 have hta:=Tryz.assertBytesE (.agg #[.int .i64 n,.string s])
 have hlt:pb < w.heap.size:=World.block_lt_of_cell? w ⟨pb,0,none⟩ hc
 have hca:∀o,(w.alloc o).cell? ⟨pb,0,none⟩=some u0:=fun o=>(World.cell?_alloc_lt w o ⟨pb,0,none⟩ hlt).trans hc
 have hfa:∀o,(w.alloc o).frozen? ⟨pb,0,none⟩=false:=fun o=>(World.frozen?_alloc_old w o ⟨pb,0,none⟩ (Nat.ne_of_lt hlt)).trans hz
 refine callsD_of_wpS Tryz.func111 rfl fun c₀ cs hu=>?_
 apply wpS_seq
 apply wpS_region
 simp[wpOpsS,go_sem,recoverD,hu,Tryz.ntmps111,Exit.thenS]
 refine wpS_of_wp ?_
 go_wp2
 simp[bodyPostS,results,Tryz.results111]
 exact⟨_,rfl⟩
def ReadNoE (w:World)(e:Ending)(w':World):Prop:=
 ∃(n:Int) (s:ByteArray),e=.returned (.tuple #[.pointer none,.iface 139 (.agg #[.int .i64 n,.string s])])∧Below w.heap.size w w'
theorem read_doorE {w w1:World}{tmps:Array Value}{n:Int}{s:ByteArray}(h6:tmps[6]?.getD undef=.pointer none)(h7:tmps[7]?.getD undef=.pointer (some ⟨w.heap.size,0,none⟩))(HB:Below (w.alloc (.cells #[.nilIface] 69)).heap.size (w.alloc (.cells #[.nilIface] 69)) w1) :
  bodyPostD Tryz.prog Tryz.f61 (ReadNoE w) (Exit.panic [{ v:=.iface 139 (.agg #[.int .i64 n,.string s]),recovered:=false }])
   { tmps:=tmps,defers:=[{ target:=Target.fn (Fn.func 111) #[.pointer (some ⟨w.heap.size,0,none⟩)],args:=#[] }] } w1:=by
 have hc1:w1.cell? ⟨w.heap.size,0,none⟩=some .nilIface:=(cell_bel HB ⟨w.heap.size,0,none⟩ (by simp)).trans (by simp)
 have hz1:w1.frozen? ⟨w.heap.size,0,none⟩=false:=(World.frozen?_of_block (a:=⟨w.heap.size,0,none⟩) (HB.block w.heap.size (by simp))).trans (by simp)
 have hlt1:w.heap.size < w1.heap.size:=by have:=HB.size;simp at this;omega
 refine leaves_cons (f:=111) (args:=#[.pointer (some ⟨w.heap.size,0,none⟩)]) (by simp) (by simp[go_sem]) ?_
 refine (readE1_caught w.heap.size n s [] _ .nilIface hc1 hz1).mono ?_
 rintro e u' w'' ⟨rfl,rfl,o,hw⟩
 have hc2:w''.cell? ⟨w.heap.size,0,none⟩=some (.iface 139 (.agg #[.int .i64 n,.string s])):=by
  rw[hw,World.cell?_alloc_lt _ o ⟨w.heap.size,0,none⟩ (by show _ < (w1.heap.modify _ _).size;rw[Array.size_modify];exact hlt1)]
  exact World.cell?_setCell_same _ _ _ hc1
 have hb2:Below w.heap.size w w'':=by
  rw[hw]
  exact ((((Below.refl _ w).alloc (Nat.le_refl _) _).trans (HB.mono (by simp))).setCell (Nat.le_refl _) _).alloc (by show _≤(w1.heap.modify _ _).size;rw[Array.size_modify];omega) _
 simp[Leaves,settle,results,Tryz.results61,go_sem,h6,h7,hc2]
 exact⟨n,s,rfl,hb2⟩
theorem readE_unsound (F:Nat→Prop)(v:Value)(l:List UInt8)(kind:UInt8)(rd:Value)(w:World)(hv:BytesAt F w v l)(hl:l.length≤1000000)(hs:Fr.sound l kind=none) :
  Calls Tryz.prog 61 #[.int .u8 kind.toNat,v,rd] w (ReadNoE w):=by
 have hmf:∀(fn:Fn) (first cap:Array Value) (w:World),(Instr.makeFunc fn first cap).run Tryz.prog w=.ok (.func fn first cap) w:=fun _ _ _ _=>rfl
 have HO:=hid (fun o=>fOpen_any F v l kind (w.alloc o) (hv.below ((Below.refl _ _).alloc (Nat.le_refl _) _)) hl)
 have HS:=hid hs
 clear hv hs
 go_enter_defers Tryz.func61,Tryz.ntmps61
 go_wp2_with (go_at_call 112;refine (HO.out _).mono ?_;rintro e w1 ⟨hb,he⟩;rw[HS.out] at he;obtain⟨n1,s1,rfl⟩:=he;have HB:=hid hb;clear hb)
 exact read_doorE (n:=n1) (s:=s1) rfl rfl HB.out
theorem readE_panics (F:Nat→Prop)(v:Value)(l c:List UInt8)(kind:UInt8)(w:World)(hv:BytesAt F w v l)(hl:l.length≤1000000)(hs:Fr.sound l kind=some c)
  (hr:∀(W:World) (v':Value),Below (w.heap.size+1) (w.alloc (.cells #[.nilIface] 69)) W→RdAt W (w.heap.size+1) v' 1→BytesAt F W v' (l.take (l.length - 4)) →
   Calls Tryz.prog 62 #[.pointer (some ⟨w.heap.size+1,0,none⟩)] W fun e w'=>BytesPanic e∧Below (w.heap.size+1) W w') :
  Calls Tryz.prog 61 #[.int .u8 kind.toNat,v,.func (.func 62) #[] #[]] w (ReadNoE w):=by
 have hmf:∀(fn:Fn) (first cap:Array Value) (w:World),(Instr.makeFunc fn first cap).run Tryz.prog w=.ok (.func fn first cap) w:=fun _ _ _ _=>rfl
 have HO:=hid (fun o=>fOpen_any F v l kind (w.alloc o) (hv.below ((Below.refl _ _).alloc (Nat.le_refl _) _)) hl)
 have HS:=hid hs
 have HR:=hid hr
 clear hv hs hr
 go_enter_defers Tryz.func61,Tryz.ntmps61
 go_wp2_with (first
  | (go_at_call 112;refine (HO.out _).mono ?_;rintro e w1 ⟨hb,he⟩;rw[HS.out] at he;obtain⟨v1,rfl,h1,h2⟩:=he;have HB:=hid (And.intro hb (And.intro h1 h2));clear hb h1 h2)
  | (go_at_call 62;refine (HR.out _ v1 (by simpa using HB.out.1) (by simpa using HB.out.2.1) HB.out.2.2).mono ?_;rintro e w2 ⟨⟨n2,s2,rfl⟩,hb2⟩;have HB2:=hid hb2;clear hb2))
 exact read_doorE (n:=n2) (s:=s2) rfl rfl (HB.out.1.trans (HB2.out.mono (by simp)))
theorem readE_ok (F:Nat→Prop)(v:Value)(l c:List UInt8)(kind:UInt8)(w:World)(hv:BytesAt F w v l)(hl:l.length≤1000000)(hs:Fr.sound l kind=some c)(P:Value→World→Prop)
  (hr:∀(W:World) (v':Value),Below (w.heap.size+1) (w.alloc (.cells #[.nilIface] 69)) W→RdAt W (w.heap.size+1) v' 1→BytesAt F W v' (l.take (l.length - 4)) →
   Calls Tryz.prog 62 #[.pointer (some ⟨w.heap.size+1,0,none⟩)] W fun e w'=>∃r,e=.returned r∧RdAt w' (w.heap.size+1) v' (l.length - 4)∧Below (w.heap.size+1) W w'∧P r w') :
  Calls Tryz.prog 61 #[.int .u8 kind.toNat,v,.func (.func 62) #[] #[]] w fun e w'=>∃r w2 q,e=.returned (.tuple #[r,.nilIface])∧w'=(w2.drewN q).setCell ⟨w.heap.size,0,none⟩ .nilIface∧P r w2∧Below w.heap.size w w2:=by
 have hmf:∀(fn:Fn) (first cap:Array Value) (w:World),(Instr.makeFunc fn first cap).run Tryz.prog w=.ok (.func fn first cap) w:=fun _ _ _ _=>rfl
 have h5:5≤l.length:=by
  unfold Fr.sound at hs
  split at hs
  ·rename_i h;exact h.1
  ·cases hs
 have HO:=hid (fun o=>fOpen_any F v l kind (w.alloc o) (hv.below ((Below.refl _ _).alloc (Nat.le_refl _) _)) hl)
 have HS:=hid hs
 have HR:=hid hr
 clear hv hs hr
 go_enter_defers Tryz.func61,Tryz.ntmps61
 go_wp2_with (first
  | (go_at_call 112;refine (HO.out _).mono ?_;rintro e w1 ⟨hb,he⟩;rw[HS.out] at he;obtain⟨v1,rfl,h1,h2⟩:=he;obtain⟨a1,p1,rfl,-,-⟩:=RowAt.slice h2;have HB:=hid (And.intro hb (And.intro h1 h2));clear hb h1 h2)
  | (go_at_call 62;refine (HR.out _ _ (by simpa using HB.out.1) (by simpa using HB.out.2.1) HB.out.2.2).mono ?_;rintro e w2 ⟨r2,rfl,hr2,hb2,hp2⟩;have c0:=hr2.c0;have c1:=hr2.c1;have HB2:=hid (And.intro hb2 (And.intro hp2 hr2));clear hb2 hp2 hr2))
 have hb3:Below (w.heap.size+1) (w.alloc (.cells #[.nilIface] 69)) w2:=(show Below (w.heap.size+1) (w.alloc (.cells #[.nilIface] 69)) w1 by simpa using HB.out.1).trans HB2.out.1
 have e0:w2.cell? ⟨w.heap.size,0,none⟩=some .nilIface:=(cell_bel hb3 ⟨w.heap.size,0,none⟩ (by simp)).trans (by simp)
 have ez:w2.frozen? ⟨w.heap.size,0,none⟩=false:=(World.frozen?_of_block (a:=⟨w.heap.size,0,none⟩) (hb3.block w.heap.size (by simp))).trans (by simp)
 have HB3:=hid hb3
 clear hb3
 have hlen:(l.take (l.length - 4)).length=l.length - 4:=by rw[List.length_take];omega
 rw[hlen] at c0
 go_quiet ((go_at_call 113;exact Calls.quiet_of_same (fNeed_true _ _ _)))
 go_wp2
 refine leaves_cons (f:=111) (args:=#[.pointer (some ⟨w.heap.size,0,none⟩)]) (by simp) (by simp[go_sem]) ?_
 refine (readE1_idle ⟨w.heap.size,0,none⟩ _).mono ?_
 rintro e u' w'' ⟨rfl,rfl,rfl⟩
 have hc2:((w2.drewN nq).setCell ⟨w.heap.size,0,none⟩ .nilIface).cell? ⟨w.heap.size,0,none⟩=some .nilIface:=World.cell?_setCell_same _ _ _ (show (w2.drewN nq).cell? ⟨w.heap.size,0,none⟩=some .nilIface from e0)
 simp[Leaves,settle,results,Tryz.results61,go_sem,hc2]
 exact⟨w2,⟨nq,rfl⟩,HB2.out.2.1,((Below.refl _ w).alloc (Nat.le_refl _) _).trans (HB3.out.mono (by omega))⟩
end Go.Proofs.YtfldcmdhneegmaaGreatDoor

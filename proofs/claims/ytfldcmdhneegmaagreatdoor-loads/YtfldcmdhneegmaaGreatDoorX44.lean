import Derived.Test.YtfldcmdhneegmaaGreatDoorX38
set_option maxHeartbeats 4000000
set_option maxRecDepth 1000000
namespace Go.Proofs.YtfldcmdhneegmaaGreatDoor
open Go.RowKit Go.Lib
def RdQ (w:World):Exit→Act→World→Prop
 | .panic c,a,w1=>(∃(n:Int) (s:ByteArray),c=[{ v:=.iface 139 (.agg #[.int .i64 n,.string s]),recovered:=false }])∧a.tmps[6]?.getD undef=.pointer none∧a.tmps[7]?.getD undef=.pointer (some ⟨w.heap.size,0,none⟩)∧a.defers=[{ target:=Target.fn (Fn.func 111) #[.pointer (some ⟨w.heap.size,0,none⟩)],args:=#[] }]∧Below (w.alloc (.cells #[.nilIface] 69)).heap.size (w.alloc (.cells #[.nilIface] 69)) w1
 | _,_,_=>False
theorem RdQ.put {w:World}{d:Nat}{v:Value}(h6:d≠6)(h7:d≠7):∀c a w1,RdQ w (.panic c) (Act.put a (some d) v) w1→RdQ w (.panic c) a w1:=by
 rintro c a w1 ⟨h1,h2,h3,h4,h5⟩
 refine⟨h1,?_,?_,h4,h5⟩
 ·rw[← h2]
  show _=(a.tmps.setIfInBounds d v)[6]?.getD undef
  rw[Array.getElem?_setIfInBounds_ne h6]
 ·rw[← h3]
  show _=(a.tmps.setIfInBounds d v)[7]?.getD undef
  rw[Array.getElem?_setIfInBounds_ne h7]
theorem RdQ.door {w:World}{c:List PanicEntry}{a:Act}{w1:World}(h:RdQ w (.panic c) a w1):bodyPostD Tryz.prog Tryz.f61 (ReadNoE w) (Exit.panic c) a w1:=by
 obtain⟨⟨n,s,rfl⟩,h6,h7,h4,h5⟩:=h
 obtain⟨tmps,defers⟩:=a
 dsimp only at h4
 subst h4
 exact read_doorE h6 h7 h5
theorem readE_more (F:Nat→Prop)(v:Value)(l c:List UInt8)(kind:UInt8)(w:World)(hv:BytesAt F w v l)(hl:l.length≤1000000)(hs:Fr.sound l kind=some c)(k:Nat)(hk:k < l.length - 4)
  (hr:∀(W:World) (v':Value),Below (w.heap.size+1) (w.alloc (.cells #[.nilIface] 69)) W→RdAt W (w.heap.size+1) v' 1→BytesAt F W v' (l.take (l.length - 4)) →
   Calls Tryz.prog 62 #[.pointer (some ⟨w.heap.size+1,0,none⟩)] W fun e w'=>∃r,e=.returned r∧RdAt w' (w.heap.size+1) v' k∧Below (w.heap.size+1) W w') :
  Calls Tryz.prog 61 #[.int .u8 kind.toNat,v,.func (.func 62) #[] #[]] w (ReadNoE w):=by
 have hmf:∀(fn:Fn) (first cap:Array Value) (w:World),(Instr.makeFunc fn first cap).run Tryz.prog w=.ok (.func fn first cap) w:=fun _ _ _ _=>rfl
 have h5:5≤l.length:=by omega
 have HO:=hid (fun o=>fOpen_any F v l kind (w.alloc o) (hv.below ((Below.refl _ _).alloc (Nat.le_refl _) _)) hl)
 have HS:=hid hs
 have HR:=hid hr
 clear hv hs hr
 go_enter_defers Tryz.func61,Tryz.ntmps61
 go_wp2_with (first
  | (go_at_call 112;refine (HO.out _).mono ?_;rintro e w1 ⟨hb,he⟩;rw[HS.out] at he;obtain⟨v1,rfl,h1,h2⟩:=he;obtain⟨a1,p1,rfl,-,-⟩:=RowAt.slice h2;have HB:=hid (And.intro hb (And.intro h1 h2));clear hb h1 h2)
  | (go_at_call 62;refine (HR.out _ _ (by simpa using HB.out.1) (by simpa using HB.out.2.1) HB.out.2.2).mono ?_;rintro e w2 ⟨r2,rfl,hr2,hb2⟩;have c0:=hr2.c0;have c1:=hr2.c1;have HB2:=hid (And.intro hb2 hr2);clear hb2 hr2))
 have hb3:Below (w.heap.size+1) (w.alloc (.cells #[.nilIface] 69)) w2:=(show Below (w.heap.size+1) (w.alloc (.cells #[.nilIface] 69)) w1 by simpa using HB.out.1).trans HB2.out.1
 have HB3:=hid hb3
 clear hb3
 have hlen:(l.take (l.length - 4)).length=l.length - 4:=by rw[List.length_take];omega
 rw[hlen] at c0
 have hkl:((k:Int) == ((l.length - 4:Nat):Int))=false:=by rw[beq_eq_false_iff_ne];omega
 refine Code.wp_mono (Q:=RdQ w) (fun e a w1 h=>by cases e with | panic c=>exact h.door | _=>exact (h:False).elim) ?_
 refine wp_region_held_drew (S:=fun W=>W.cell? ⟨w.heap.size+1,0,none⟩=some (.slice a1 (l.length - 4) p1)∧W.cell? ⟨w.heap.size+1,1,none⟩=some (.int .i64 k)) (by kernel_rfl) ⟨by exact c0,by exact c1⟩ (fun hS=>?_)
 refine wpAnyH_take (i:=0) (v:=.pointer (some ⟨w.heap.size+1,0,none⟩)) rfl (by kernel_rfl) (by kernel_rfl) (by kernel_rfl) (RdQ.put (by decide) (by decide)) (Or.inl ⟨by rfl,fun W hW=>by first | rfl | (obtain⟨hW0,hW1⟩:=hW;go_simp;done)⟩) hS ?_
 refine wpAnyH_take (i:=1) (v:=.pointer (some ⟨w.heap.size+1,0,none⟩)) rfl (by kernel_rfl) (by kernel_rfl) (by kernel_rfl) (RdQ.put (by decide) (by decide)) (Or.inl ⟨by rfl,fun W hW=>by first | rfl | (obtain⟨hW0,hW1⟩:=hW;go_simp;done)⟩) hS ?_
 go_simp
 refine wpAnyH_take (i:=2) (v:=.pointer (some ⟨w.heap.size+1,0,none⟩)) rfl (by kernel_rfl) (by kernel_rfl) (by kernel_rfl) (RdQ.put (by decide) (by decide)) (Or.inl ⟨by rfl,fun W hW=>by first | rfl | (obtain⟨hW0,hW1⟩:=hW;go_simp;done)⟩) hS ?_
 refine wpAnyH_take (i:=3) (v:=.pointer (some ⟨w.heap.size+1,1,none⟩)) rfl (by kernel_rfl) (by kernel_rfl) (by kernel_rfl) (RdQ.put (by decide) (by decide)) (Or.inl ⟨by rfl,fun W hW=>by first | rfl | (obtain⟨hW0,hW1⟩:=hW;go_simp;done)⟩) hS ?_
 go_simp
 refine wpAnyH_take (i:=4) (v:=.int .i64 k) rfl (by kernel_rfl) (by kernel_rfl) (by kernel_rfl) (RdQ.put (by decide) (by decide)) (Or.inl ⟨by rfl,fun W hW=>by first | rfl | (obtain⟨hW0,hW1⟩:=hW;go_simp;done)⟩) hS ?_
 refine wpAnyH_take (i:=5) (v:=.pointer (some ⟨w.heap.size+1,0,none⟩)) rfl (by kernel_rfl) (by kernel_rfl) (by kernel_rfl) (RdQ.put (by decide) (by decide)) (Or.inl ⟨by rfl,fun W hW=>by first | rfl | (obtain⟨hW0,hW1⟩:=hW;go_simp;done)⟩) hS ?_
 go_simp
 refine wpAnyH_take (i:=6) (v:=.pointer (some ⟨w.heap.size+1,0,none⟩)) rfl (by kernel_rfl) (by kernel_rfl) (by kernel_rfl) (RdQ.put (by decide) (by decide)) (Or.inl ⟨by rfl,fun W hW=>by first | rfl | (obtain⟨hW0,hW1⟩:=hW;go_simp;done)⟩) hS ?_
 refine wpAnyH_take (i:=7) (v:=.pointer (some ⟨w.heap.size+1,0,none⟩)) rfl (by kernel_rfl) (by kernel_rfl) (by kernel_rfl) (RdQ.put (by decide) (by decide)) (Or.inl ⟨by rfl,fun W hW=>by first | rfl | (obtain⟨hW0,hW1⟩:=hW;go_simp;done)⟩) hS ?_
 go_simp
 refine wpAnyH_take (i:=8) (v:=.slice a1 (l.length - 4) p1) rfl (by kernel_rfl) (by kernel_rfl) (by kernel_rfl) (RdQ.put (by decide) (by decide)) (Or.inl ⟨by rfl,fun W hW=>by first | rfl | (obtain⟨hW0,hW1⟩:=hW;go_simp;done)⟩) hS ?_
 refine wpAnyH_take (i:=9) (v:=.int .i64 ((l.length - 4:Nat):Int)) rfl (by kernel_rfl) (by kernel_rfl) (by kernel_rfl) (RdQ.put (by decide) (by decide)) (Or.inl ⟨by rfl,fun W hW=>by first | rfl | (obtain⟨hW0,hW1⟩:=hW;go_simp;done)⟩) hS ?_
 go_simp
 refine wpAnyH_take (i:=10) (v:=.bool false) rfl (by kernel_rfl) (by kernel_rfl) (by kernel_rfl) (RdQ.put (by decide) (by decide)) (Or.inl ⟨by rfl,fun W hW=>by first | rfl | (obtain⟨hW0,hW1⟩:=hW;go_simp;done)⟩) hS ?_
 refine wpAnyH_ready (rs:=[11]) (by kernel_rfl) (by simp) ?_
 refine AllReadyH.cons rfl (fun K hK=>?_) AllReadyH.nil
 go_simp
 refine (fNeed_false (w.heap.size+1) _ _ _ (by exact c1)).mono ?_
 rintro e w8 ⟨rfl,hw⟩
 subst hw
 refine⟨⟨_,_,rfl⟩,rfl,rfl,rfl,?_⟩
 have hz:(w.alloc (.cells #[.nilIface] 69)).heap.size=w.heap.size+1:=by simp
 rw[hz]
 exact Below.drew HB3.out
end Go.Proofs.YtfldcmdhneegmaaGreatDoor
namespace Go.Proofs.YtfldcmdhneegmaaGreatDoor.Fr
def loadOf (l:List UInt8):Option Stt:=
 match sound l 83 with
 | none=>none
 | some _=>
  match rdState ((l.take (l.length - 4)).drop 1) with
  | some (s,[])=>some s
  | _=>none
theorem sound_len {l c:List UInt8}{kind:UInt8}(h:sound l kind=some c):5≤l.length:=by
 unfold sound at h
 split at h
 ·rename_i h2;exact h2.1
 ·cases h
end Go.Proofs.YtfldcmdhneegmaaGreatDoor.Fr
namespace Go.Proofs.YtfldcmdhneegmaaGreatDoor
open Go.RowKit Go.Lib
theorem readE_no (v:Value)(l:List UInt8)(w:World)(hv:BytesAt (fun g=>g < w.heap.size) w v l)(hl:l.length≤1000000)(hn:Fr.loadOf l=none)(hL:Letters w)(hT:Pow10 w) :
  Calls Tryz.prog 61 #[.int .u8 83,v,.func (.func 62) #[] #[]] w (ReadNoE w):=by
 cases hs:Fr.sound l 83 with
 | none=>exact readE_unsound _ v l 83 _ w hv hl hs
 | some c=>
  have h5:=Fr.sound_len hs
  unfold Fr.loadOf at hn
  rw[hs] at hn
  dsimp only at hn
  cases hr:Fr.rdState ((l.take (l.length - 4)).drop 1) with
  | none=>
   refine readE_panics _ v l c 83 w hv hl hs (fun W v' h1 h2 h3=>(readEngine_in l w hl h5 hL hT W v' h1 h2 h3).mono fun e w' h=>?_)
   obtain⟨k1,k2⟩:=h
   rw[hr] at k2
   have hz:w.heap.size+1 < W.heap.size:=lt_of_block h2
   exact⟨k2,but_below k1 (Nat.le_refl _) (by omega)⟩
  | some q=>
   obtain⟨s,r'⟩:=q
   rw[hr] at hn
   have hne:r'≠[]:=by
    intro e
    subst e
    cases hn
   have hpos:=List.length_pos_iff.2 hne
   have hk:l.length - 4 - r'.length < l.length - 4:=by omega
   refine readE_more _ v l c 83 w hv hl hs (l.length - 4 - r'.length) hk (fun W v' h1 h2 h3=>(readEngine_in l w hl h5 hL hT W v' h1 h2 h3).mono fun e w' h=>?_)
   obtain⟨k1,k2⟩:=h
   rw[hr] at k2
   obtain⟨eb,vs,vq,vr,A,rfl,k3,-,-⟩:=k2
   have hz:w.heap.size+1 < W.heap.size:=lt_of_block h2
   exact⟨_,rfl,k3,but_below k1 (Nat.le_refl _) (by omega)⟩
theorem eLoad_no (v:Value)(l:List UInt8)(w:World)(hv:BytesAt (fun g=>g < w.heap.size) w v l)(hl:l.length≤1000000)(hn:Fr.loadOf l=none)(hL:Letters w)(hT:Pow10 w) :
  Calls Tryz.prog 32 #[v] w (ReadNoE w):=by
 have HC:=hid (readE_no v l w hv hl hn hL hT)
 obtain⟨ao,cap,rfl,-,-⟩:=RowAt.slice hv
 clear hv hl hn hL hT
 go_enter Tryz.func32,Tryz.ntmps32
 go_wp2_with (go_at_call 61;fail)
 refine HC.out.mono ?_
 rintro e w1 ⟨n,s,rfl,hb⟩
 have H1:=hid hb
 clear hb
 go_wp2
 go_ret2
 exact⟨n,s,rfl,H1.out⟩
theorem sLoad_no (v:Value)(l:List UInt8)(w:World)(hv:BytesAt (fun g=>g < w.heap.size) w v l)(hl:l.length≤1000000)(hn:Fr.loadOf l=none)(hL:Letters w)(hT:Pow10 w)(hE:ErrType w) :
  Calls Tryz.prog 11 #[v] w fun e w'=>e=.returned (.tuple #[.pointer none,.int .i64 5])∧Below w.heap.size w w':=by
 have HC:=hid (eLoad_no v l w hv hl hn hL hT)
 obtain⟨ao,cap,rfl,-,-⟩:=RowAt.slice hv
 have HE:=hid hE
 clear hv hl hn hE hL hT
 go_enter Tryz.func11,Tryz.ntmps11
 go_wp2_with (go_at_call 32;fail)
 refine HC.out.mono ?_
 rintro e w1 ⟨n,s,rfl,hb⟩
 have H1:=hid hb
 clear hb
 go_wp2_with (go_at_call 33;fail)
 refine (number_bytes n s w1 (HE.out.below H1.out)).mono ?_
 rintro e w2 ⟨rfl,hb⟩
 have H2:=hid (H1.out.trans (hb.mono H1.out.size))
 clear hb
 go_wp2
 go_ret2
 exact⟨rfl,H2.out⟩
theorem sLoad_yes (v:Value)(l:List UInt8)(s:Fr.Stt)(w:World)(hv:BytesAt (fun g=>g < w.heap.size) w v l)(hl:l.length≤1000000)(hn:Fr.loadOf l=some s)(hL:Letters w)(hT:Pow10 w) :
  Calls Tryz.prog 11 #[v] w fun e w'=>∃w1 eb vs vq vr A,e=.returned (.tuple #[.pointer (some ⟨w1.heap.size,0,none⟩),.int .i64 0])∧w'=w1.alloc (.cells #[.pointer (some ⟨eb,0,none⟩)] 74)∧EngNew (w.heap.size+2) w1 eb s vs vq vr A∧Below w.heap.size w w1:=by
 unfold Fr.loadOf at hn
 cases hs:Fr.sound l 83 with
 | none=>rw[hs] at hn;cases hn
 | some c=>
  rw[hs] at hn
  dsimp only at hn
  split at hn
  ·rename_i s' hr
   cases hn
   exact sLoad_ok v l c s w hv hl hs (Fr.sound_len hs) hr hL hT
  ·cases hn
end Go.Proofs.YtfldcmdhneegmaaGreatDoor

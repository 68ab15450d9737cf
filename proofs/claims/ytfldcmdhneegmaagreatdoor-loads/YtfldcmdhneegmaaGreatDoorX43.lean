import Derived.Test.YtfldcmdhneegmaaGreatDoorX27
import Derived.Test.YtfldcmdhneegmaaGreatDoorX41
import Derived.Test.YtfldcmdhneegmaaGreatDoorX30
import Derived.Deep.RegionHeld3
set_option maxHeartbeats 4000000
set_option maxRecDepth 1000000
namespace Go.Proofs.YtfldcmdhneegmaaGreatDoor
open Go.RowKit Go.Lib
theorem refText_row (F:Nat→Prop)(l:List (Int × Bool))(win:Int)(v:Value)(b:Nat)(w:World)(hf:Pl.Fine l win)(hrow:RowAt F w v 2 l.length (stepRow l))(hb:w.heap[b]?=some (.cells #[v,.int .i64 win] 99 (0,0))) :
  Calls Tryz.prog 52 #[.pointer (some ⟨b,0,none⟩)] w fun e w'=>e=.returned (.string ⟨(Pl.text l win).toArray⟩)∧Below w.heap.size w w':=by
 obtain⟨hne,h4,hw0,hw9,hlt⟩:=hf
 have hn1:1≤l.length:=List.length_pos_iff.2 hne
 obtain⟨g,o,cap,rfl,hcell⟩:∃g o cap,v=.slice (some ⟨g,o,none⟩) l.length cap∧∀k (hk:k < l.length),w.cell? ⟨g,o+k * 2,none⟩=some (.int .i32 l[k].1)∧w.cell? ⟨g,o+k * 2+1,none⟩=some (.bool l[k].2):=by
  rcases hrow.2 with ⟨_,h0⟩ | ⟨g,o,cap,hv,-,-,-,-,r⟩
  ·omega
  ·refine⟨g,o,cap,hv,fun k hk=>?_⟩
   obtain⟨g0,g1⟩:=stepRow_get l k hk
   have r0:=r _ _ g0
   have r1:=r _ _ g1
   rw[Nat.add_zero] at r0
   rw[← Nat.add_assoc] at r1
   exact⟨r0,r1⟩
 obtain⟨b0,b1,_,_⟩:=res_cells hb
 have HO:=hid hcell
 have HB:=hid hlt
 have HD:=hid (digits_any win w hw0 hw9)
 clear hrow hlt hb hcell
 go_enter Tryz.func52,Tryz.ntmps52
 go_wp2
 go_loop [3,4] (fun s i=>∃k:Nat,k≤l.length∧i=.int .i64 k∧s=.string ⟨(Pl.stepsText (l.take k)).toArray⟩) (fun _ i=>l.length - (intOf i).toNat)
 case atStart=>exact⟨0,Nat.zero_le _,rfl,rfl⟩
 case round=>
  obtain⟨k,hk,rfl,rfl⟩:=hrel
  have hlen:(Pl.stepsText (l.take k)).length≤24:=by
   have h1:=Pl.stepsText_length (l.take k)
   have h2:(l.take k).length≤4:=Nat.le_trans (List.length_take_le _ _) (by omega)
   omega
  by_cases hlt:k < l.length
  ·obtain⟨s0,s1⟩:=HO.out k hlt
   have hval:=(HB.out l[k] (List.getElem_mem hlt)).2
   have henc:=encode_eq l[k].1 hval
   have hel:=(Pl.encodeRune_length l[k].1).2
   clear hval
   cases hm:l[k].2
   ·rw[hm] at s1
    have HM:=hid hm
    clear hm
    go_wp2
    go_round
    case rel=>
     refine⟨k+1,by omega,by go_num,?_⟩
     rw[Pl.take_snoc l k hlt,Pl.stepsText_snoc]
     simp only[ByteArray.mk_append_mk]
     simp[Pl.stepText,HM.out]
    case measure=>simp[intOf];omega
   ·rw[hm] at s1
    have HM:=hid hm
    clear hm
    go_wp2
    go_round
    case rel=>
     refine⟨k+1,by omega,by go_num,?_⟩
     rw[Pl.take_snoc l k hlt,Pl.stepsText_snoc]
     simp only[ByteArray.mk_append_mk]
     simp[Pl.stepText,HM.out]
    case measure=>simp[intOf];omega
  ·obtain rfl:k=l.length:=by omega
   have hl4:=Pl.decDigits_length win.toNat (by omega)
   rw[List.take_length] at hlen ⊢
   go_wp2_with (go_at_call 95;refine HD.out.mono ?_;rintro e w' ⟨rfl,hbb⟩;have HBB:=hid hbb;clear hbb)
   go_ret
   refine⟨?_,HBB.out⟩
   simp only[ByteArray.mk_append_mk]
   simp[Pl.text,Pl.itoa_eq win hw0]
theorem str_app (a b:List UInt8):(⟨a.toArray⟩:ByteArray)++⟨b.toArray⟩=⟨(a++b).toArray⟩:=by simp[ByteArray.mk_append_mk]
theorem En.flat_len1 {α β:Type}(f:α→List β)(l:List α)(h:∀x,1≤(f x).length):l.length≤(l.flatMap f).length:=by
 induction l with
 | nil=>simp
 | cons x t ih=>
  have h1:=h x
  simp only[List.flatMap_cons,List.length_append,List.length_cons]
  omega
theorem offsB_len (l:List Int):l.length≤(En.offsB l).length:=by
 induction l with
 | nil=>simp
 | cons x t ih=>
  have h1:=Fr.num_pos x.toNat
  simp only[En.offsB,List.flatMap_cons,List.length_append,List.length_cons] at ih ⊢
  omega
theorem RunsAt.offsAt {F:Nat→Prop}{w:World}{v:Value}{l:List RV}(h:RunsAt F w v l){i:Nat}(hi:i < l.length):IntsAt F w l[i].2 l[i].1.offs:=h.offs _ (List.getElem_mem hi)
structure SvT (P:En.Pat)(W Next:Int)(Q:List En.Ev)(U:List En.Rn):Prop where
 fine:Pl.Fine P.steps P.win
 q12:Q.length≤12
 evs:∀e∈Q,0≤e.off∧e.off < 9223372036854775808∧0≤e.kind∧e.kind < 2147483648∧-9223372036854775808≤e.time∧e.time < 9223372036854775808
 w0:-9223372036854775808≤W
 w1:W < 9223372036854775808
 n0:0≤Next
 n1:Next < 9223372036854775808
 run:∀r∈U,r.step < 1000∧-9223372036854775808≤r.first∧r.first < 9223372036854775808∧∀o∈r.offs,0≤o∧o < 9223372036854775808
 len:(En.stateB (Pl.text P.steps P.win) W Next Q U).length≤1000000
theorem rSave_any (F:Nat→Prop)(eb pb:Nat)(P:En.Pat)(W Next:Int)(vs vw vd vo:Value)(Q D:List En.Ev)(old:List RV)(U:List En.Rn)(w:World)(h:REng F w eb pb P W Next vs vw vd vo Q D old)(hB:Bds P D old)(hU:En.under P D (old.map Prod.fst) W (P.win - 1)=U)(hs:SvT P W Next Q U) :
  Calls Tryz.prog 39 #[.pointer (some ⟨eb,0,none⟩)] w fun e w'=>e=.returned (.string ⟨(Fr.framed (En.stateB (Pl.text P.steps P.win) W Next Q U)).toArray⟩)∧Below w.heap.size w w':=by
 obtain⟨aw,cw,hvw⟩:=own_slice h.wait
 subst hvw
 obtain⟨tx,htx⟩:∃tx,Pl.text P.steps P.win=tx:=⟨_,rfl⟩
 have htl:=Pl.text_length P.steps P.win hs.fine
 rw[htx] at htl
 have HX:=hid htx
 have HE:=hid h
 have HS:=hid hs
 have HBd:=hid hB
 have HU:=hid hU
 have hn0:=hs.n0
 have hn1:=hs.n1
 have hw0:=hs.w0
 have hw1:=hs.w1
 have hq12:=hs.q12
 have c0:=h.c0
 have HT:=hid (refText_row F P.steps P.win vs pb w hs.fine h.steps h.pat)
 clear h hs hB hU htx
 go_enter Tryz.func39,Tryz.ntmps39
 go_wp2_with (go_at_call 52;fail)
 refine HT.out.mono ?_
 rw[HX.out]
 rintro e w1 ⟨rfl,hb1⟩
 have H1:=hid hb1
 clear HT c0 hb1
 go_wp2_with (go_at_call 72;fail)
 refine (rNumber_any tx.length w1 (by omega)).mono ?_
 rintro e w2 ⟨rfl,hb2⟩
 have H2:=hid (H1.out.trans (hb2.mono H1.out.size))
 clear hb2 H1
 have hy1:=Fr.num_length64 (n:=tx.length) (by omega)
 obtain⟨y1,hy1e⟩:∃y,Fr.num tx.length=y:=⟨_,rfl⟩
 rw[hy1e] at hy1 ⊢
 have Y1:=hid hy1e
 clear hy1e
 have c1:=(HE.out.below H2.out).c1
 go_wp2_with (go_at_call 73;fail)
 refine (rMoment_any W w2 hw0 hw1).mono ?_
 rintro e w3 ⟨rfl,hb3⟩
 have H3:=hid (H2.out.trans (hb3.mono H2.out.size))
 clear hb3 c1 H2
 have hy2:=Fr.num_length64 (n:=Fr.zig W) (Fr.zig_lt hw0 hw1)
 obtain⟨y2,hy2e⟩:∃y,Fr.mom W=y:=⟨_,rfl⟩
 change (Fr.mom W).length≤10 at hy2
 rw[hy2e] at hy2 ⊢
 have Y2:=hid hy2e
 clear hy2e
 have c2:=(HE.out.below H3.out).c2
 obtain⟨nx,rfl⟩:∃nx:Nat,Next=nx:=⟨Next.toNat,by omega⟩
 simp only[str_app]
 go_wp2_with (go_at_call 72;fail)
 refine (rNumber_any nx w3 (by omega)).mono ?_
 rintro e w4 ⟨rfl,hb4⟩
 have H4:=hid (H3.out.trans (hb4.mono H3.out.size))
 clear hb4 c2 H3
 have hy3:=Fr.num_length64 (n:=nx) (by omega)
 obtain⟨y3,hy3e⟩:∃y,Fr.num nx=y:=⟨_,rfl⟩
 rw[hy3e] at hy3 ⊢
 have Y3:=hid hy3e
 clear hy3e
 have c3:=(HE.out.below H4.out).c3
 simp only[str_app]
 go_wp2_with (go_at_call 72;fail)
 refine (rNumber_any Q.length w4 (by omega)).mono ?_
 rintro e w5 ⟨rfl,hb5⟩
 have H5:=hid (H4.out.trans (hb5.mono H4.out.size))
 clear hb5 c3 H4
 have hy4:=Fr.num_length64 (n:=Q.length) (by omega)
 obtain⟨y4,hy4e⟩:∃y,Fr.num Q.length=y:=⟨_,rfl⟩
 rw[hy4e] at hy4 ⊢
 have Y4:=hid hy4e
 clear hy4e
 have c3:=(HE.out.below H5.out).c3
 simp only[str_app]
 go_wp2_with (go_at_call 47;fail)
 refine (rSorted_any (fun _=>True) (.slice aw Q.length cw) Q w5 (fun _ _=>trivial) (RowAt.mono (RowAt.ofOwn (HE.out.below H5.out).wait) (fun _ _ _=>trivial)) (by omega)).mono ?_
 rintro e w6 ⟨vl,rfl,hl,hb6⟩
 have H6:=hid (And.intro (H5.out.trans (hb6.mono H5.out.size)) hl)
 obtain⟨al,cl,rfl,-,-⟩:=RowAt.slice hl
 clear hb6 c3 H5 hl
 simp only[str_app]
 have hLl:=(En.sortEv_perm Q).length_eq
 have HLm:Hid (∀e∈En.sortEv Q,e∈Q):=fun e he=>(En.sortEv_perm Q).mem_iff.1 he
 have HST:Hid (En.stateB tx W nx Q U=((83::(y1++(tx++(y2++(y3++y4)))))++En.evsB (En.sortEv Q))++(Fr.num U.length++En.runsB U)):=by
  show _=_
  unfold En.stateB En.headB
  rw[Y1.out,Y2.out,Y4.out,show ((nx:Nat):Int).toNat=nx by omega,Y3.out]
  simp
 have HSL:Hid ((En.stateB tx W nx Q U).length≤1000000):=by
  have:=HS.out.len
  rw[HX.out] at this
  exact this
 generalize hLe:En.sortEv Q=L at *
 have HLe:=hid hLe
 have hL12:L.length≤12:=by omega
 have HLl:=hid hLl
 clear hLe hLl
 simp only[List.cons_append,List.nil_append,List.append_assoc]
 obtain⟨hd,hhd⟩:∃hd,83::(y1++(tx++(y2++(y3++y4))))=hd:=⟨_,rfl⟩
 rw[hhd] at HST ⊢
 clear hhd Y1 Y2 Y3 Y4 hy1 hy2 hy3 hy4
 have HPL:Hid (∀k,(hd++En.evsB (L.take k)).length≤1000000):=fun k=>by
  have h1:=HSL.out
  rw[HST.out] at h1
  have h2:=En.flat_take_le En.evB L k
  simp only[List.length_append,En.evsB] at h1 h2 ⊢
  omega
 go_wp2
 go_loopw [4,7] (fun s4 s7 wr=>∃(k:Nat) (X:List UInt8),s4=.string ⟨X.toArray⟩∧s7=.int .i64 k∧k≤L.length∧X.length≤1000000∧Hid (X=hd++En.evsB (L.take k)∧Below w6.heap.size w6 wr)) (fun _ s7 _=>L.length - (intOf s7).toNat)
 case atStart=>exact⟨0,hd,rfl,rfl,Nat.zero_le _,by have:=HPL.out 0;simpa [En.evsB] using this,by simp[En.evsB],Below.refl _ _⟩
 case round=>
  obtain⟨k,X,rfl,rfl,hk,hXl,hr⟩:=hrel
  by_cases hlt:k < L.length
  ·have hlt':(k:Int) < (L.length:Int):=by omega
   have HV:=hid (fun (W':World) (hb:Below wr.heap.size wr W')=>EvsAt.get (RowAt.below (RowAt.below H6.out.2 hr.out.2) hb) hlt)
   obtain⟨g1,g2,g3,g4,g5,g6⟩:=HS.out.evs _ (HLm.out _ (List.getElem_mem hlt))
   obtain⟨on,hon⟩:∃n:Nat,L[k].off=n:=⟨L[k].off.toNat,by omega⟩
   obtain⟨kn,hkn⟩:∃n:Nat,L[k].kind=n:=⟨L[k].kind.toNat,by omega⟩
   obtain⟨tm,htm⟩:∃t,L[k].time=t:=⟨_,rfl⟩
   rw[hon,hkn,htm] at HV
   have HEV:Hid (En.evB L[k]=Fr.num on++(Fr.num kn++Fr.mom tm)):=by
    show _=_
    unfold En.evB
    rw[hon,hkn,htm]
    rfl
   rw[hon] at g1 g2
   rw[hkn] at g3 g4
   rw[htm] at g5 g6
   clear hon hkn htm
   obtain⟨bb,oo,rfl,-,c0,-,-⟩:=HV.out wr (Below.refl _ _)
   go_wp2_with (go_at_call 72;fail)
   refine (rNumber_any on wr (by omega)).mono ?_
   rintro e v1 ⟨rfl,hb1⟩
   have B1:=hid hb1
   have ha1:=Fr.num_length64 (n:=on) (by omega)
   obtain⟨z1,hz1⟩:∃y,Fr.num on=y:=⟨_,rfl⟩
   rw[hz1] at ha1 HEV ⊢
   clear hb1 c0 hz1
   obtain⟨b',o',he',-,-,c1,-⟩:=HV.out v1 B1.out
   cases he'
   go_wp2_with (go_at_call 72;fail)
   refine (rNumber_any kn v1 (by omega)).mono ?_
   rintro e v2 ⟨rfl,hb2⟩
   have B2:=hid (B1.out.trans (hb2.mono B1.out.size))
   have ha2:=Fr.num_length64 (n:=kn) (by omega)
   obtain⟨z2,hz2⟩:∃y,Fr.num kn=y:=⟨_,rfl⟩
   rw[hz2] at ha2 HEV ⊢
   clear hb2 c1 hz2 B1
   obtain⟨b',o',he',-,-,-,c2⟩:=HV.out v2 B2.out
   cases he'
   go_wp2_with (go_at_call 73;fail)
   refine (rMoment_any tm v2 g5 g6).mono ?_
   rintro e v3 ⟨rfl,hb3⟩
   have B3:=hid (B2.out.trans (hb3.mono B2.out.size))
   have ha3:=Fr.num_length64 (n:=Fr.zig tm) (Fr.zig_lt g5 g6)
   change (Fr.mom tm).length≤10 at ha3
   obtain⟨z3,hz3⟩:∃y,Fr.mom tm=y:=⟨_,rfl⟩
   rw[hz3] at ha3 HEV ⊢
   clear hb3 c2 hz3 B2
   have HN:Hid (X++(z1++(z2++z3))=hd++En.evsB (L.take (k+1))):=by
    show _=_
    unfold En.evsB
    rw[En.flat_take En.evB L k hlt,HEV.out,← List.append_assoc hd,hr.out.1]
    rfl
   have hXn:(X++(z1++(z2++z3))).length≤1000000:=by rw[HN.out];exact HPL.out (k+1)
   go_wp2
   go_roundw
   case rel=>exact⟨k+1,X++(z1++(z2++z3)),by simp[str_app],by go_num,by omega,hXn,HN.out,hr.out.2.trans (B3.out.mono hr.out.2.size)⟩
   case measure=>simp[intOf];omega
  ·obtain rfl:k=L.length:=by omega
   have HXe:Hid (X=hd++En.evsB L):=by have:=hr.out.1;rw[List.take_length] at this;exact this
   have H7:=hid (H6.out.1.trans (hr.out.2.mono H6.out.1.size))
   clear hr H6 HPL
   have c0:=(HE.out.below H7.out).c0
   have c1:=(HE.out.below H7.out).c1
   obtain⟨p0,p1,-,-⟩:=res_cells (HE.out.below H7.out).pat
   have hwin:=HBd.out.w0
   have hwin1:=HBd.out.w1
   have hwn:IntKind.i64.wrap (P.win - 1)=P.win - 1:=by simp[IntKind.wrap,IntKind.bits,IntKind.signed];omega
   have HUn:Hid (∀W',Below w.heap.size w W'→Calls Tryz.prog 49 #[.pointer (some ⟨eb,0,none⟩),.int .i64 W,.int .i64 (P.win - 1)] W' fun e w'=>Makes (fun b=>F b∨w.heap.size≤b) U W' e w'):=fun W' hb=>by
    have hR:=(HE.out.below hb).reads
    have:=rUnder_any (fun b=>F b∨w.heap.size≤b) eb pb P vs vd vo D old HBd.out W (P.win - 1) (by omega) (by omega) W' (fun b h1=>Or.inr (Nat.le_trans hb.size h1)) ⟨hR.e0,hR.e4,hR.e5,hR.p0,hR.p1,RowAt.mono hR.steps (fun _ _ h=>Or.inl h),RowAt.mono hR.done (fun _ _ h=>Or.inl h),RunsAt.mono hR.old (fun _ _ h=>Or.inl h)⟩
    rw[HU.out] at this
    exact this
   go_wp2
   go_region_held3 (fun W'=>W'.cell? ⟨eb,0,none⟩=some (.pointer (some ⟨pb,0,none⟩))∧W'.cell? ⟨eb,1,none⟩=some (.int .i64 W)∧W'.cell? ⟨pb,1,none⟩=some (.int .i64 P.win)) (go_keep) ((go_at_call 49;refine (HUn.out _ (by exact (Below.drew H7.out))).mono ?_;rintro e w8 ⟨vu,l8,rfl,hu8,hm8,hb8⟩;have hb8':Below w.heap.size w w8:=(Below.drew H7.out).trans (hb8.mono (by exact H7.out.size));have z0:=(HE.out.below hb8').c0;have z1:=(HE.out.below hb8').c1;obtain⟨-,z2,-,-⟩:=res_cells (HE.out.below hb8').pat;have H8:=hid (And.intro hb8' (And.intro hu8 hm8));clear hb8 hb8' hu8 hm8))
   clear c0 c1 p0 p1 z0 z1 z2 HUn
   obtain⟨au,cu,hvu,-,-⟩:=RowAt.slice H8.out.2.1.row
   subst hvu
   have hUl:U.length=l8.length:=by rw[← H8.out.2.2,List.length_map]
   have hl8:l8.length≤1000000:=by
    have h1:=HSL.out
    rw[HST.out] at h1
    have h2:=En.flat_len1 En.runB U (fun r=>by unfold En.runB;have:=Fr.num_pos r.step;simp only[List.length_append];omega)
    simp only[List.length_append,En.runsB] at h1
    omega
   have HUl0:=hid hUl
   clear hUl
   go_wp2_with (go_at_call 72;fail)
   have hUl:=HUl0.out
   refine (rNumber_any l8.length w8 (by omega)).mono ?_
   rintro e w9 ⟨rfl,hb9⟩
   have ha1:=Fr.num_length64 (n:=l8.length) (by omega)
   obtain⟨z1,hz1⟩:∃y,Fr.num l8.length=y:=⟨_,rfl⟩
   have H9:=hid (And.intro (H8.out.1.trans (hb9.mono H8.out.1.size)) (And.intro (H8.out.2.1.below hb9) H8.out.2.2))
   have HST2:Hid (En.stateB tx W nx Q U=(X++z1)++En.runsB U):=by
    show _=_
    rw[HST.out,HXe.out,hUl,hz1]
    simp
   rw[hz1] at ha1 ⊢
   have HPL2:Hid (∀k,((X++z1)++En.runsB (U.take k)).length≤1000000):=fun k=>by
    have h1:=HSL.out
    rw[HST2.out] at h1
    have h2:=En.flat_take_le En.runB U k
    simp only[List.length_append,En.runsB] at h1 h2 ⊢
    omega
   clear hb9 hz1 H8 HST HXe
   have hXz:(X++z1).length≤1000000:=by have:=HPL2.out 0;simpa [En.runsB] using this
   have HUl:=hid hUl
   clear hUl
   go_wp2
   simp only[str_app]
   obtain⟨Y0,hY0⟩:∃q,X++z1=q:=⟨_,rfl⟩
   rw[hY0] at HST2 HPL2 hXz ⊢
   clear hY0
   go_loopw [4,12] (fun s4 s12 wr=>∃(k:Nat) (Y:List UInt8),s4=.string ⟨Y.toArray⟩∧s12=.int .i64 k∧k≤l8.length∧Y.length≤1000000∧Hid (Y=Y0++En.runsB (U.take k)∧Below w9.heap.size w9 wr)) (fun _ s12 _=>l8.length - (intOf s12).toNat)
   case atStart=>exact⟨0,Y0,rfl,rfl,Nat.zero_le _,hXz,by simp[En.runsB],Below.refl _ _⟩
   case round=>
    obtain⟨k,Y,rfl,rfl,hk,hYl,hr⟩:=hrel
    obtain⟨wo,rfl⟩:∃wo,wo=wr:=⟨_,rfl⟩
    by_cases hlt:k < l8.length
    ·have hlt':(k:Int) < (l8.length:Int):=by omega
     have hku:k < U.length:=by rw[HUl.out];exact hlt
     have hxe:U[k]=l8[k].1:=by
      have h1:=H9.out.2.2
      subst h1
      simp
     have HV:=hid (fun (W':World) (hb:Below wo.heap.size wo W')=>RunsAt.get ((H9.out.2.1.below hr.out.2).below hb) hlt)
     have HI:=hid (fun (W':World) (hb:Below wo.heap.size wo W')=>RunsAt.offsAt ((H9.out.2.1.below hr.out.2).below hb) hlt)
     obtain⟨x,hx⟩:∃x,l8[k].1=x:=⟨_,rfl⟩
     rw[hx] at hxe HV HI
     obtain⟨g1,g2,g3,g4⟩:=HS.out.run x (by rw[← hxe];exact List.getElem_mem hku)
     obtain⟨oa,oc,hvo,-,-⟩:=RowAt.slice (HI.out wo (Below.refl _ _))
     rw[hvo] at HV HI
     have HTK:Hid (Y0++En.runsB (U.take (k+1))=Y++En.runB x):=by
      show _=_
      unfold En.runsB
      rw[En.flat_take En.runB U k hku,hxe,← List.append_assoc,hr.out.1]
      rfl
     have hol:x.offs.length≤1000000:=by
      have h1:=HPL2.out (k+1)
      rw[HTK.out] at h1
      have h2:=offsB_len x.offs
      simp only[En.runB,List.length_append] at h1
      omega
     have HG4:=hid g4
     clear hvo hx hxe g4
     obtain⟨bb,oo,rfl,-,c0,-,-⟩:=HV.out wo (Below.refl _ _)
     go_wp2_with (go_at_call 72;fail)
     refine (rNumber_any x.step wo (by omega)).mono ?_
     rintro e v1 ⟨rfl,hb1⟩
     have B1:=hid hb1
     have ha2:=Fr.num_length64 (n:=x.step) (by omega)
     obtain⟨a1,hz1⟩:∃y,Fr.num x.step=y:=⟨_,rfl⟩
     rw[hz1] at ha2 ⊢
     have A1:=hid hz1
     clear hb1 c0 hz1
     obtain⟨b',o',he',-,-,c1,-⟩:=HV.out v1 B1.out
     cases he'
     go_wp2_with (go_at_call 72;fail)
     refine (rNumber_any x.offs.length v1 (by omega)).mono ?_
     rintro e v2 ⟨rfl,hb2⟩
     have B2:=hid (B1.out.trans (hb2.mono B1.out.size))
     have ha3:=Fr.num_length64 (n:=x.offs.length) (by omega)
     obtain⟨a2,hz2⟩:∃y,Fr.num x.offs.length=y:=⟨_,rfl⟩
     rw[hz2] at ha3 ⊢
     have A2:=hid hz2
     clear hb2 c1 hz2 B1
     have HRB:Hid (En.runB x=a1++(a2++(En.offsB x.offs++Fr.mom x.first))):=by show _=_;unfold En.runB;rw[A1.out,A2.out]
     have HPL3:Hid (∀j,(Y++(a1++(a2++En.offsB (x.offs.take j)))).length≤1000000):=fun j=>by
      have h1:=HPL2.out (k+1)
      rw[HTK.out,HRB.out] at h1
      have h2:=En.flat_take_le (fun o:Int=>Fr.num o.toNat) x.offs j
      simp only[List.length_append,En.offsB] at h1 h2 ⊢
      omega
     have hZl:(Y++(a1++a2)).length≤1000000:=by have:=HPL3.out 0;simpa [En.offsB] using this
     go_wp2
     simp only[str_app,List.append_assoc]
     obtain⟨Z0,hZ0⟩:∃q,Y++(a1++a2)=q:=⟨_,rfl⟩
     rw[hZ0] at hZl ⊢
     have HZ0:=hid hZ0
     clear hZ0
     go_loopw [4,15] (fun s4 s15 wq=>∃(j:Nat) (Z:List UInt8),s4=.string ⟨Z.toArray⟩∧s15=.int .i64 j∧j≤x.offs.length∧Z.length≤1000000∧Hid (Z=Z0++En.offsB (x.offs.take j)∧Below v2.heap.size v2 wq)) (fun _ s15 _=>x.offs.length - (intOf s15).toNat)
     case atStart=>exact⟨0,Z0,rfl,rfl,Nat.zero_le _,hZl,by simp[En.offsB],Below.refl _ _⟩
     case round=>
      obtain⟨j,Z,rfl,rfl,hj,hZl',hq⟩:=hrel
      have HBq:=hid (B2.out.trans (hq.out.2.mono B2.out.size))
      obtain⟨b',o',he',-,-,c1,c2⟩:=HV.out wr HBq.out
      cases he'
      by_cases hlj:j < x.offs.length
      ·have hlj':(j:Int) < (x.offs.length:Int):=by omega
       obtain⟨h1,h2⟩:=HG4.out _ (List.getElem_mem hlj)
       obtain⟨on,hon⟩:∃n:Nat,x.offs[j]=n:=⟨x.offs[j].toNat,by omega⟩
       obtain⟨ib,io,hoa,ci⟩:=(HI.out wr HBq.out).get hlj
       subst hoa
       rw[hon] at ci h1 h2
       have HON:Hid (En.offsB (x.offs.take (j+1))=En.offsB (x.offs.take j)++Fr.num on):=by
        show _=_
        unfold En.offsB
        rw[En.flat_take (fun o:Int=>Fr.num o.toNat) x.offs j hlj,hon]
        rfl
       clear hon c2
       go_wp2_with (go_at_call 72;fail)
       refine (rNumber_any on wr (by omega)).mono ?_
       rintro e v3 ⟨rfl,hb3⟩
       have B3:=hid hb3
       have ha4:=Fr.num_length64 (n:=on) (by omega)
       obtain⟨a3,hz3⟩:∃y,Fr.num on=y:=⟨_,rfl⟩
       rw[hz3] at ha4 HON ⊢
       clear hb3 c1 ci hz3
       have HN:Hid (Z++a3=Z0++En.offsB (x.offs.take (j+1))):=by
        show _=_
        rw[HON.out,hq.out.1,List.append_assoc]
       have hZn:(Z++a3).length≤1000000:=by
        have:=HPL3.out (j+1)
        rw[HN.out,← HZ0.out]
        simpa using this
       go_wp2
       go_roundw
       case rel=>exact⟨j+1,Z++a3,by simp[str_app],by go_num,by omega,hZn,HN.out,hq.out.2.trans (B3.out.mono hq.out.2.size)⟩
       case measure=>simp[intOf];omega
      ·obtain rfl:j=x.offs.length:=by omega
       have hjf:decide ((x.offs.length:Int) < (x.offs.length:Int))=false:=by simp
       go_wp2_with (go_at_call 73;fail)
       refine (rMoment_any x.first wr g2 g3).mono ?_
       rintro e v4 ⟨rfl,hb4⟩
       have B4:=hid (HBq.out.trans (hb4.mono HBq.out.size))
       have ha5:=Fr.num_length64 (n:=Fr.zig x.first) (Fr.zig_lt g2 g3)
       change (Fr.mom x.first).length≤10 at ha5
       have HN:Hid (Z++Fr.mom x.first=Y0++En.runsB (U.take (k+1))):=by
        show _=_
        rw[HTK.out,HRB.out,hq.out.1,List.take_length,← HZ0.out]
        simp
       have hZn:(Z++Fr.mom x.first).length≤1000000:=by rw[HN.out];exact HPL2.out (k+1)
       obtain⟨a4,hz4⟩:∃y,Fr.mom x.first=y:=⟨_,rfl⟩
       rw[hz4] at ha5 HN hZn ⊢
       clear hb4 c1 c2 hz4
       go_wp2
       go_roundw
       case rel=>exact⟨k+1,Z++a4,by simp[str_app],by go_num,by omega,hZn,HN.out,hr.out.2.trans (B4.out.mono hr.out.2.size)⟩
       case measure=>simp[intOf];omega
    ·obtain rfl:k=l8.length:=by omega
     have HF:Hid (Y=En.stateB tx W nx Q U):=by
      have h1:=hr.out.1
      rw[← HUl.out,List.take_length] at h1
      exact h1.trans HST2.out.symm
     have HB:=hid (H9.out.1.trans (hr.out.2.mono H9.out.1.size))
     go_wp2_with (go_at_call 74;fail)
     refine (rFramed_any Y wo hYl).mono ?_
     rintro e w10 ⟨rfl,hb10⟩
     have H10:=hid (HB.out.trans (hb10.mono HB.out.size))
     clear hb10
     go_wp2
     go_ret
     refine⟨?_,H10.out⟩
     rw[HF.out,HX.out]
     rfl
end Go.Proofs.YtfldcmdhneegmaaGreatDoor

import Derived.Test.YtfldcmdhneegmabGreatDoorX2
import Derived.Test.YtfldcmdhneegmabGreatDoorPStR
import Derived.Test.YtfldcmdhneegmabGreatDoorRound
import Derived.Test.YtfldcmdhneegmabGreatDoorZ18

/-
  The engine's Save, and package spotter's.
-/
namespace Go.Proofs.YtfldcmdhneegmabGreatDoor
open Go.RowKit Go.Lib

theorem Pow10.below {w w' : World} (h : Pow10 w) (hb : Below w.heap.size w w') : Pow10 w' := TabIs_below (g := 1) (by kernel_rfl) h hb

/-- What is asked of an engine that is saved. -/
structure SvOk (P : En.Pat) (W Next : Int) (Q : List En.Ev) (A : List En.Rn) : Prop where
  fine : Pl.Fine P.steps P.win
  hp : En.Hp Q Q.length
  apt : En.Apt Q
  q12 : Q.length ≤ 12
  evs : ∀ e ∈ Q, 0 ≤ e.off ∧ e.off < 9223372036854775808 ∧ 0 ≤ e.kind ∧ e.kind < 2147483648 ∧ -9223372036854775808 ≤ e.time ∧ e.time < 9223372036854775808
  w0 : -9223372036854775808 ≤ W
  w1 : W < 9223372036854775808
  n0 : 0 ≤ Next
  n1 : Next < 9223372036854775808
  a24 : A.length ≤ 24
  run : ∀ r ∈ A, r.step < 1000 ∧ -9223372036854775808 ≤ r.first ∧ r.first < 9223372036854775808 ∧ ∀ o ∈ r.offs, 0 ≤ o ∧ o < 9223372036854775808
  len : (En.stateB (Pl.text P.steps P.win) W Next Q A).length ≤ 9000000

set_option maxHeartbeats 4000000 in
set_option maxRecDepth 1000000 in
theorem eSave_any (F : Nat → Prop) (eb : Nat) (P : En.Pat) (W Next : Int) (vs vq vr : Value) (Q : List En.Ev) (A : List RV) (w : World) (h : PEng F w eb P W Next vs vq vr Q A) (hs : SvOk P W Next Q (A.map Prod.fst)) (hT : Pow10 w) :
    Calls Tryz.prog 17 #[.pointer (some ⟨eb, 0, none⟩)] w fun e w' => ∃ v, e = .returned v ∧ w'.ownsRow w.heap.size 5 1 v (Fr.framed (En.stateB (Pl.text P.steps P.win) W Next Q (A.map Prod.fst))).length (byteCells (Fr.framed (En.stateB (Pl.text P.steps P.win) W Next Q (A.map Prod.fst)))) ∧ Below w.heap.size w w' := by
  obtain ⟨c0, c1, c2, c3, c4, c5, -⟩ := six_cl h.blk
  obtain ⟨ss, cs, hvs, -, -⟩ := RowAt.slice h.steps
  obtain ⟨aq, cq, hvq⟩ := own_slice h.wait
  obtain ⟨ar, cr, hvr, -, -⟩ := RowAt.slice h.runs
  rw [hvs] at c0
  rw [hvq] at c4
  rw [hvr] at c5
  have leb := lt_of_block h.blk
  obtain ⟨nx, hnx⟩ : ∃ nx : Nat, Next = nx := ⟨Next.toNat, by have := hs.n0; omega⟩
  have hA24 : A.length ≤ 24 := by have := hs.a24; simpa using this
  have hQ12 := hs.q12
  have hn1 := hs.n1
  have htx := Pl.text_length P.steps P.win hs.fine
  subst hnx
  have HP := hid (And.intro h (And.intro hs hT))
  subst hvs hvq hvr
  clear h hs hT
  go_enter Tryz.func17, Tryz.ntmps17
  go_wp2_with (go_at_call 27; fail)
  refine (newWriter_any 83 w).mono ?_
  rintro e w1 ⟨b, rfl, g1, g2⟩
  have d0 := (cell_bel g2 ⟨eb, 0, none⟩ leb).trans c0
  have d1 := (cell_bel g2 ⟨eb, 1, none⟩ leb).trans c1
  have H1 := hid (And.intro g1 g2)
  have hs1 := g2.size
  clear g1 g2
  go_wp2_with (go_at_call 29; fail)
  refine (pString_row (fun b => F b ∧ b ≠ eb) P.steps P.win _ w1 HP.out.2.1.fine (HP.out.1.steps.below H1.out.2) (HP.out.2.2.below H1.out.2)).mono ?_
  rintro e w2 ⟨rfl, g2⟩
  have H2 := hid (And.intro (H1.out.1.bel g2) (H1.out.2.trans (g2.mono hs1)))
  have hs2 := H2.out.2.size
  clear g2 d0 d1
  go_wp2_with (go_at_call 28; fail)
  refine (wText_k w.heap.size b [83] (Pl.text P.steps P.win) w2 H2.out.1 (by simp) (by omega) (by omega)).mono ?_
  rintro e w3 ⟨rfl, g1, g2, g3⟩
  have k3 := (WKept.below H2.out.2).trans g3
  have H3 := hid (And.intro g1 (And.intro (H2.out.2.trans g2) k3))
  have hs3 := k3.1
  have d2 := (cell_bel (H2.out.2.trans g2) ⟨eb, 2, none⟩ leb).trans c2
  clear g1 g2 g3 k3
  have hlT : ([83] ++ (Fr.num (Pl.text P.steps P.win).length ++ Pl.text P.steps P.win)).length ≤ 1000 := by
    have := Fr.num_length64 (n := (Pl.text P.steps P.win).length) (by omega)
    simp only [List.length_append, List.length_cons, List.length_nil]
    omega
  go_wp2_with (go_at_call 30; fail)
  refine (wMoment_k w.heap.size b _ W w3 H3.out.1 HP.out.2.1.w0 HP.out.2.1.w1 (by omega) (by omega)).mono ?_
  rintro e w4 ⟨rfl, g1, g2, g3⟩
  have k4 := H3.out.2.2.trans g3
  have H4 := hid (And.intro g1 (And.intro (H3.out.2.1.trans g2) k4))
  have hs4 := k4.1
  have d3 := (cell_bel (H3.out.2.1.trans g2) ⟨eb, 3, none⟩ leb).trans c3
  clear g1 g2 g3 k4 d2
  have hlM : ([83] ++ (Fr.num (Pl.text P.steps P.win).length ++ Pl.text P.steps P.win) ++ Fr.mom W).length ≤ 1010 := by
    have := Fr.num_length64 (n := Fr.zig W) (Fr.zig_lt HP.out.2.1.w0 HP.out.2.1.w1)
    rw [List.length_append]
    unfold Fr.mom
    omega
  go_wp2_with (go_at_call 31; fail)
  refine (wCount_k w.heap.size b _ nx w4 H4.out.1 (by omega) (by omega) (by omega)).mono ?_
  rintro e w5 ⟨rfl, g1, g2, g3⟩
  have k5 := H4.out.2.2.trans g3
  have hhd : [83] ++ (Fr.num (Pl.text P.steps P.win).length ++ Pl.text P.steps P.win) ++ Fr.mom W ++ Fr.num nx = En.headB (Pl.text P.steps P.win) W (nx : Int) := by simp [En.headB]
  rw [hhd] at g1
  have H5 := hid (And.intro g1 (And.intro (H4.out.2.1.trans g2) k5))
  have hs5 := k5.1
  have d4 := (cell_bel (H4.out.2.1.trans g2) ⟨eb, 4, none⟩ leb).trans c4
  clear g1 g2 g3 k5 d3 hhd hlT hlM
  have hlen := HP.out.2.1.len
  generalize hhB : En.headB (Pl.text P.steps P.win) W (nx : Int) = hB at H5
  have hst : En.stateB (Pl.text P.steps P.win) W (nx : Int) Q (A.map Prod.fst) = hB ++ (Fr.num Q.length ++ En.evsB (En.sortEv Q)) ++ (Fr.num A.length ++ En.runsB (A.map Prod.fst)) := by
    unfold En.stateB
    rw [hhB, List.length_map]
  rw [hst] at hlen
  simp only [List.length_append] at hlen
  have HST := hid hst
  clear hst hhB
  go_wp2_with (go_at_call 32; fail)
  refine (qSave_any w.heap.size b hB Q _ w5 H5.out.1 (H5.out.2.2.own HP.out.1.wait (by decide) (by decide)) HP.out.2.1.hp HP.out.2.1.apt hQ12 HP.out.2.1.evs (by simp only [List.length_append]; omega) (by omega)).mono ?_
  rintro e w6 ⟨rfl, g1, g2, g3⟩
  have k6 := H5.out.2.2.trans g3
  have H6 := hid (And.intro g1 (And.intro (H5.out.2.1.trans g2) k6))
  have hs6 := k6.1
  have d5 := (cell_bel (H5.out.2.1.trans g2) ⟨eb, 5, none⟩ leb).trans c5
  clear g1 g2 g3 k6 d4
  go_wp2_with (go_at_call 31; fail)
  refine (wCount_k w.heap.size b _ A.length w6 H6.out.1 (by omega) (by simp only [List.length_append]; omega) (by omega)).mono ?_
  rintro e w7 ⟨rfl, g1, g2, g3⟩
  have k7 := H6.out.2.2.trans g3
  have H7 := hid (And.intro g1 (And.intro (H6.out.2.1.trans g2) k7))
  have hs7 := k7.1
  have d6 := (cell_bel (H6.out.2.1.trans g2) ⟨eb, 5, none⟩ leb).trans c5
  clear g1 g2 g3 k7 d5
  go_wp2
  go_loopw [44] (fun s44 wr => ∃ k : Nat, k ≤ A.length ∧ s44 = .int .i64 k ∧ Hid (WrAt w.heap.size wr b (hB ++ (Fr.num Q.length ++ En.evsB (En.sortEv Q)) ++ (Fr.num A.length ++ En.runsB ((A.map Prod.fst).take k))) ∧ Below w.heap.size w wr)) (fun s44 _ => A.length - (intOf s44).toNat)
  case atStart => exact ⟨0, by omega, rfl, by simpa [En.runsB] using H7.out.1, H7.out.2.1⟩
  case round =>
    obtain ⟨k, hk, rfl, hr⟩ := hrel
    have hsr := hr.out.2.size
    by_cases hlt : k < A.length
    · have hk' : (k : Int) < (A.length : Int) := by omega
      have hrow : RowAt (fun g => F g ∧ RunT w g) wr (.slice ar A.length cr) 3 A.length (runCells A) := RowAt.frame HP.out.1.runs hsr (fun g hg _ => hr.out.2.block g hg)
      obtain ⟨b3, o3, cap3, he3, hcell⟩ := RowAt.at hrow hlt
      obtain ⟨q0, q1, q2⟩ := runCells_get A k hlt
      have r0 : wr.cell? ⟨b3, o3 + k * 3, none⟩ = _ := hcell 0 _ (by omega) q0
      have r1 := hcell 1 _ (by omega) q1
      have r2 := hcell 2 _ (by omega) q2
      rw [← Nat.add_assoc] at r1 r2
      cases he3
      have hmem : A[k].1 ∈ A.map Prod.fst := List.mem_map_of_mem (List.getElem_mem hlt)
      obtain ⟨rs, rf0, rf1, ro⟩ := HP.out.2.1.run _ hmem
      have hio : IntsAt (fun g => g < w.heap.size) wr A[k].2 A[k].1.offs := RowAt.frame (RowAt.mono (HP.out.1.offs _ (List.getElem_mem hlt)) (fun g hg _ => hg)) hsr (fun g hg _ => hr.out.2.block g hg)
      obtain ⟨x, hx⟩ : ∃ x, A[k] = x := ⟨_, rfl⟩
      rw [hx] at r0 r1 r2 rs rf0 rf1 ro hio
      obtain ⟨a4, c4', hv4, -, -⟩ := RowAt.slice hio
      rw [hv4] at r1 hio
      have hal := (Below.refl wr.heap.size wr).alloc (Nat.le_refl _) (.cells #[.int .i64 (x.1.step : Int), .slice a4 x.1.offs.length c4', .int .i64 x.1.first] 86)
      have HX := hid (And.intro hx (And.intro hio (And.intro ro hal)))
      have hbk : (w.heap.size : Nat) ≤ wr.heap.size := hsr
      have hlk : (hB ++ (Fr.num Q.length ++ En.evsB (En.sortEv Q)) ++ (Fr.num A.length ++ En.runsB ((A.map Prod.fst).take k)) ++ En.runB x.1).length ≤ 100000000 := by
        have h3 := En.flat_take_le En.runB (A.map Prod.fst) (k + 1)
        rw [En.flat_take _ _ _ (by simpa using hlt)] at h3
        simp only [List.getElem_map, hx, List.length_append] at h3
        simp only [En.runsB, List.length_append] at hlen ⊢
        omega
      clear hx hio ro hal hv4 hrow hcell q0 q1 q2 hmem
      go_wp2_with (go_at_call 33; fail)
      refine (rSaveE_any w.heap.size b _ x.1 (.slice a4 x.1.offs.length c4') _ (hr.out.1.bel HX.out.2.2.2) (HX.out.2.1.below HX.out.2.2.2) HX.out.2.2.1 rs rf0 rf1 hlk (by simp; omega)).mono ?_
      rintro e w8 ⟨rfl, g1, g2, g3⟩
      have H8 := hid (And.intro g1 ((hr.out.2.trans (HX.out.2.2.2.mono hbk)).trans g2))
      clear g1 g2 g3
      go_wp2
      go_roundw
      case rel =>
        refine ⟨k + 1, by omega, by go_num, ?_, H8.out.2⟩
        have e5 : En.runsB ((A.map Prod.fst).take (k + 1)) = En.runsB ((A.map Prod.fst).take k) ++ En.runB x.1 := by
          unfold En.runsB
          rw [En.flat_take _ _ _ (by simpa using hlt)]
          simp [HX.out.1]
        rw [e5]
        have := H8.out.1
        simpa using this
      case measure => simp [intOf]; omega
    · obtain rfl : k = A.length := by omega
      have hk' : decide ((A.length : Int) < (A.length : Int)) = false := decide_eq_false (by omega)
      have hfull : (A.map Prod.fst).take A.length = A.map Prod.fst := List.take_of_length_le (by simp)
      have h9 := hr.out.1
      rw [hfull] at h9
      have H9 := hid h9
      clear h9 hfull
      go_wp2_with (go_at_call 34; fail)
      refine (wFrame_any w.heap.size b _ wr H9.out (by have := Fr.num_pos A.length; simp only [List.length_append]; omega) (by simp only [List.length_append]; omega)).mono ?_
      rintro e w10 ⟨v10, rfl, ho10, hb10⟩
      rw [← HST.out] at ho10
      obtain ⟨nL, hnL⟩ : ∃ nL, (Fr.framed (En.stateB (Pl.text P.steps P.win) W (nx : Int) Q (A.map Prod.fst))).length = nL := ⟨_, rfl⟩
      rw [hnL] at ho10
      have HnL := hid hnL
      clear hnL
      obtain ⟨a10, c10, rfl⟩ := own_slice ho10
      have H10 := hid (And.intro (own_mono ho10 hsr) (hr.out.2.trans (hb10.mono hsr)))
      clear ho10 hb10
      go_wp2
      go_ret
      refine ⟨_, rfl, ?_, H10.out.2⟩
      rw [HnL.out]
      exact H10.out.1

set_option maxHeartbeats 2000000 in
theorem sSave_any (F : Nat → Prop) (sb eb : Nat) (P : En.Pat) (W Next : Int) (vs vq vr : Value) (Q : List En.Ev) (A : List RV) (w : World) (hsb : w.heap[sb]? = some (.cells #[.pointer (some ⟨eb, 0, none⟩)] 53 (0, 0))) (h : PEng F w eb P W Next vs vq vr Q A) (hs : SvOk P W Next Q (A.map Prod.fst)) (hT : Pow10 w) :
    Calls Tryz.prog 7 #[.pointer (some ⟨sb, 0, none⟩)] w fun e w' => ∃ v, e = .returned v ∧ w'.ownsRow w.heap.size 5 1 v (Fr.framed (En.stateB (Pl.text P.steps P.win) W Next Q (A.map Prod.fst))).length (byteCells (Fr.framed (En.stateB (Pl.text P.steps P.win) W Next Q (A.map Prod.fst)))) ∧ Below w.heap.size w w' := by
  obtain ⟨s0, -⟩ := one_cell hsb
  have HC := hid (eSave_any F eb P W Next vs vq vr Q A w h hs hT)
  clear h hs hT hsb
  go_enter Tryz.func7, Tryz.ntmps7
  go_wp2_with (go_at_call 17; fail)
  refine HC.out.mono ?_
  rintro e w1 ⟨v1, rfl, ho1, hb1⟩
  obtain ⟨a1, c1, rfl⟩ := own_slice ho1
  have H1 := hid (And.intro ho1 hb1)
  clear ho1 hb1
  go_wp2
  go_ret
  exact ⟨_, rfl, H1.out.1, H1.out.2⟩

end Go.Proofs.YtfldcmdhneegmabGreatDoor

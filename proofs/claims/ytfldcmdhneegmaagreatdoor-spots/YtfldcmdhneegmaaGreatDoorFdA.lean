import Derived.Test.YtfldcmdhneegmaaGreatDoorAvC
import Derived.Deep.QuietTactic

/-
  The engine's Feed and New; Advance that comes late.
-/
namespace Go.Proofs.YtfldcmdhneegmaaGreatDoor
open Go.RowKit Go.Lib

set_option maxHeartbeats 2000000 in
set_option maxRecDepth 1000000 in
theorem eAdvance_late (F : Nat → Prop) (eb : Nat) (P : En.Pat) (W Next t : Int) (vs vq vr : Value) (Q : List En.Ev) (A : List RV) (w : World) (h : PEng F w eb P W Next vs vq vr Q A) (hlt : t < W) :
    Calls Tryz.prog 60 #[.pointer (some ⟨eb, 0, none⟩), .int .i64 t] w fun e w' => e = .returned (.tuple #[.slice none 0 0, .iface 135 (.agg #[.int .i64 t, .int .i64 W])]) ∧ Below w.heap.size w w' := by
  obtain ⟨e0, e1, e2, e3, e4, e5, ef⟩ := six_cl h.blk
  clear h ef e0 e1 e3 e4 e5
  go_enter Tryz.func60, Tryz.ntmps60
  go_wp2
  go_quiet (fail)
  revert nq; intro n1
  go_wp2
  go_ret2
  exact ⟨rfl, bel_drewN (Below.refl _ _) _⟩

set_option maxHeartbeats 2000000 in
set_option maxRecDepth 1000000 in
theorem eFeed_late (F : Nat → Prop) (eb : Nat) (P : En.Pat) (W Next kind time : Int) (vs vq vr : Value) (Q : List En.Ev) (A : List RV) (w : World) (h : PEng F w eb P W Next vs vq vr Q A) (hlt : time ≤ W) :
    Calls Tryz.prog 59 #[.pointer (some ⟨eb, 0, none⟩), .agg #[.int .i32 kind, .int .i64 time]] w fun e w' => e = .returned (.tuple #[.int .i64 0, .iface 135 (.agg #[.int .i64 time, .int .i64 W])]) ∧ Below w.heap.size w w' := by
  have leb := lt_of_block h.blk
  have hal := (Below.refl w.heap.size w).alloc (Nat.le_refl _) (.cells #[.int .i32 kind, .int .i64 time] 39)
  have ha : (w.alloc (.cells #[.int .i32 kind, .int .i64 time] 39)).heap[w.heap.size]? = some (.cells #[.int .i32 kind, .int .i64 time] 39 (0, 0)) := heap_alloc_new w _
  generalize hW1 : w.alloc (.cells #[.int .i32 kind, .int .i64 time] 39) = W1 at hal ha
  obtain ⟨x0, x1, -⟩ := two_cl ha
  obtain ⟨e0, e1, e2, e3, e4, e5, ef⟩ := six_cl ((hal.block _ leb).trans h.blk)
  have HB := hid hal
  have leb1 : eb < W1.heap.size := Nat.lt_of_lt_of_le leb hal.size
  have lev := lt_of_block ha
  clear h ef e0 e1 e3 e4 e5 hal ha
  go_enter Tryz.func59, Tryz.ntmps59
  go_wp2
  go_quiet (fail)
  revert nq; intro n1
  have hB1 : Below W1.heap.size W1 (W1.drewN n1) := bel_drewN (Below.refl _ _) _
  generalize W1.drewN n1 = W2 at hB1 ⊢
  have y1 := (cell_bel hB1 ⟨w.heap.size, 1, none⟩ lev).trans x1
  have y2 := (cell_bel hB1 ⟨eb, 2, none⟩ leb1).trans e2
  have HB1 := hid hB1
  clear x0 x1 e2 hB1
  go_wp2
  go_quiet (fail)
  revert nq; intro n2
  go_wp2
  go_ret2
  exact ⟨rfl, HB.out.trans ((bel_drewN HB1.out n2).mono HB.out.size)⟩

theorem set6 {w : World} {b : Nat} {x0 x1 x2 x3 x4 x5 : Value} {t : TypeId} (h : w.heap[b]? = some (.cells #[x0, x1, x2, x3, x4, x5] t (0, 0))) (u : Value) :
    (w.setCell ⟨b, 3, none⟩ u).heap[b]? = some (.cells #[x0, x1, x2, u, x4, x5] t (0, 0)) ∧ (w.setCell ⟨b, 4, none⟩ u).heap[b]? = some (.cells #[x0, x1, x2, x3, u, x5] t (0, 0)) := by
  have one : ∀ i, (w.setCell ⟨b, i, none⟩ u).heap[b]? = some (.cells (#[x0, x1, x2, x3, x4, x5].setIfInBounds i u) t (0, 0)) := by
    intro i
    show (w.heap.modify b _)[b]? = _
    rw [Array.getElem?_modify, if_pos rfl, h]
    rfl
  exact ⟨by simpa using one 3, by simpa using one 4⟩
/-- What Feed leaves where the event is taken. -/
def FdOk (F : Nat → Prop) (eb : Nat) (P : En.Pat) (W Next : Int) (vs vq vr : Value) (Q : List En.Ev) (A : List RV) (w : World) (e : Ending) (w' : World) : Prop :=
  e = .returned (.tuple #[.int .i64 Next, .nilIface]) ∧ ∃ vq' Q', Q'.Perm Q ∧ En.Hp Q' Q'.length ∧ PEng (newF F w.heap.size (.slice none 0 0) []) w' eb P W (Next + 1) vs vq' vr Q' A ∧
    w'.os = w.os ∧ w'.tape = w.tape ∧ w'.output = w.output ∧ w.heap.size ≤ w'.heap.size ∧ ∀ k, k < w.heap.size → k ≠ eb → some k ≠ vq.ownBlock → w'.heap[k]? = w.heap[k]?

set_option maxHeartbeats 4000000 in
set_option maxRecDepth 1000000 in
theorem eFeed_other (F : Nat → Prop) (eb : Nat) (P : En.Pat) (W Next kind time : Int) (vs vq vr : Value) (Q : List En.Ev) (A : List RV) (w : World) (h : PEng F w eb P W Next vs vq vr Q A) (hlt : W < time) (hPn : P.steps.length ≤ 100) (hN0 : 0 ≤ Next) (hN1 : Next ≤ 9007199254740992) (hh : (P.steps.any fun x => x.1 == kind) = false) (hp : En.Hp Q Q.length) :
    Calls Tryz.prog 59 #[.pointer (some ⟨eb, 0, none⟩), .agg #[.int .i32 kind, .int .i64 time]] w (FdOk F eb P W Next vs vq vr Q A w) := by
  have leb := lt_of_block h.blk
  have hal := (Below.refl w.heap.size w).alloc (Nat.le_refl _) (.cells #[.int .i32 kind, .int .i64 time] 39)
  have ha : (w.alloc (.cells #[.int .i32 kind, .int .i64 time] 39)).heap[w.heap.size]? = some (.cells #[.int .i32 kind, .int .i64 time] 39 (0, 0)) := heap_alloc_new w _
  generalize hW1 : w.alloc (.cells #[.int .i32 kind, .int .i64 time] 39) = W1 at hal ha
  obtain ⟨x0, x1, -⟩ := two_cl ha
  obtain ⟨e0, e1, e2, e3, e4, e5, ef⟩ := six_cl ((hal.block _ leb).trans h.blk)
  have hlt' : decide (time ≤ W) = false := decide_eq_false (by omega)
  obtain ⟨ss, cs, rfl, -, -⟩ := RowAt.slice h.steps
  have leb1 : eb < W1.heap.size := Nat.lt_of_lt_of_le leb hal.size
  have lev := lt_of_block ha
  have HC := hid (fun W' (hW : Below W1.heap.size W1 W') => pHas_any (fun b => F b ∧ b ≠ eb) (.slice ss P.steps.length cs) P.steps P.win kind W' ((h.steps.below hal).below hW) (by omega))
  rw [hh] at HC
  have HP := hid (And.intro h (And.intro hal hp))
  clear h ef hal ha hp
  go_enter Tryz.func59, Tryz.ntmps59
  go_wp2
  go_quiet (fail)
  revert nq; intro n1
  have hB1 : Below W1.heap.size W1 (W1.drewN n1) := bel_drewN (Below.refl _ _) _
  generalize W1.drewN n1 = W2 at hB1 ⊢
  have y0 := (cell_bel hB1 ⟨w.heap.size, 0, none⟩ lev).trans x0
  have y1 := (cell_bel hB1 ⟨eb, 0, none⟩ leb1).trans e0
  have y2 := (cell_bel hB1 ⟨eb, 1, none⟩ leb1).trans e1
  have leb2 : eb < W2.heap.size := Nat.lt_of_lt_of_le leb1 hB1.size
  have lev2 : w.heap.size < W2.heap.size := Nat.lt_of_lt_of_le lev hB1.size
  have HC2 := hid (fun W' (hW : Below W2.heap.size W2 W') => HC.out W' (hB1.trans (hW.mono hB1.size)))
  have HB1 := hid hB1
  clear x0 x1 e0 e1 e2 e3 e4 e5 hB1 HC
  go_wp2
  go_region_held3 (fun W => W.cell? ⟨eb, 0, none⟩ = some (.slice ss P.steps.length cs) ∧ W.cell? ⟨eb, 1, none⟩ = some (.int .i64 P.win) ∧ W.cell? ⟨w.heap.size, 0, none⟩ = some (.int .i32 kind)) (go_keep) ((go_at_call 100; refine (HC2.out _ (by first | exact bel_drewN (Below.refl _ _) _ | exact Below.drew (Below.refl _ _) | exact Below.refl _ _)).mono ?_; rintro e w3 ⟨rfl, hb3⟩; have z0 := (cell_bel hb3 ⟨eb, 0, none⟩ leb2).trans y1; have z1 := (cell_bel hb3 ⟨eb, 1, none⟩ leb2).trans y2; have z2 := (cell_bel hb3 ⟨w.heap.size, 0, none⟩ lev2).trans y0; have H3 := hid hb3; clear hb3))
  have HB3 : Hid (Below W2.heap.size W2 w3) := hid (by first | exact H3.out | exact (bel_drewN (Below.refl _ _) _).trans H3.out | exact (Below.drew (Below.refl _ _)).trans H3.out)
  have hBw : Below w.heap.size w w3 := (HP.out.2.1.trans (HB1.out.mono HP.out.2.1.size)).trans (HB3.out.mono (by have := HP.out.2.1.size; have := HB1.out.size; omega))
  have hblk := (hBw.block _ leb).trans HP.out.1.blk
  obtain ⟨q0, q1, q2, q3, q4, q5, qf⟩ := six_cl hblk
  have qf3 := qf 3
  have hw : IntKind.i64.wrap (Next + 1) = Next + 1 := wrap_small (by omega) (by omega)
  have HW := hid (And.intro hBw hblk)
  clear qf hBw hblk
  go_wp2
  have hset := (set6 HW.out.2 (.int .i64 (Next + 1))).1
  go_ret2
  refine ⟨rfl, vq, Q, List.Perm.refl _, HP.out.2.2, HP.out.1.turned (by simpa [World.setCell] using HW.out.1.size) (fun b hb hne _ => (Below.heap_setCell _ _ _ _ hne).trans (HW.out.1.block b hb)) hset (own_kept (own_below HP.out.1.wait HW.out.1) HW.out.2 (by decide) (grown_set _ _ _ _)) (fun g hg => ⟨Or.inl (HP.out.1.wself g hg), Or.inl hg⟩) (fun b hb => Or.inl hb), HW.out.1.os, HW.out.1.tape, HW.out.1.output, by simpa [World.setCell] using HW.out.1.size, fun k hk hne _ => (Below.heap_setCell _ _ _ _ hne).trans (HW.out.1.block k hk)⟩

set_option maxHeartbeats 4000000 in
set_option maxRecDepth 1000000 in
theorem eFeed_full (F : Nat → Prop) (eb : Nat) (P : En.Pat) (W Next kind time : Int) (vs vq vr : Value) (Q : List En.Ev) (A : List RV) (w : World) (h : PEng F w eb P W Next vs vq vr Q A) (hlt : W < time) (hPn : P.steps.length ≤ 100) (hh : (P.steps.any fun x => x.1 == kind) = true) (hp : En.Hp Q Q.length) (h12 : 12 ≤ Q.length) :
    Calls Tryz.prog 59 #[.pointer (some ⟨eb, 0, none⟩), .agg #[.int .i32 kind, .int .i64 time]] w fun e w' => e = .returned (.tuple #[.int .i64 0, .iface 137 (.agg #[.string ⟨#[101, 118, 101, 110, 116, 115, 32, 119, 111, 117, 108, 100, 32, 119, 97, 105, 116]⟩, .int .i64 12])]) ∧ Below w.heap.size w w' := by
  have leb := lt_of_block h.blk
  have h12' : (12 : Int) ≤ (Q.length : Int) := by omega
  obtain ⟨aq, cq, rfl⟩ := own_slice h.wait
  have hal := (Below.refl w.heap.size w).alloc (Nat.le_refl _) (.cells #[.int .i32 kind, .int .i64 time] 39)
  have ha : (w.alloc (.cells #[.int .i32 kind, .int .i64 time] 39)).heap[w.heap.size]? = some (.cells #[.int .i32 kind, .int .i64 time] 39 (0, 0)) := heap_alloc_new w _
  generalize hW1 : w.alloc (.cells #[.int .i32 kind, .int .i64 time] 39) = W1 at hal ha
  obtain ⟨x0, x1, -⟩ := two_cl ha
  obtain ⟨e0, e1, e2, e3, e4, e5, ef⟩ := six_cl ((hal.block _ leb).trans h.blk)
  have hlt' : decide (time ≤ W) = false := decide_eq_false (by omega)
  obtain ⟨ss, cs, rfl, -, -⟩ := RowAt.slice h.steps
  have leb1 : eb < W1.heap.size := Nat.lt_of_lt_of_le leb hal.size
  have lev := lt_of_block ha
  have HC := hid (fun W' (hW : Below W1.heap.size W1 W') => pHas_any (fun b => F b ∧ b ≠ eb) (.slice ss P.steps.length cs) P.steps P.win kind W' ((h.steps.below hal).below hW) (by omega))
  rw [hh] at HC
  have HP := hid (And.intro h (And.intro hal hp))
  clear h ef hal ha hp
  go_enter Tryz.func59, Tryz.ntmps59
  go_wp2
  go_quiet (fail)
  revert nq; intro n1
  have hB1 : Below W1.heap.size W1 (W1.drewN n1) := bel_drewN (Below.refl _ _) _
  generalize W1.drewN n1 = W2 at hB1 ⊢
  have y0 := (cell_bel hB1 ⟨w.heap.size, 0, none⟩ lev).trans x0
  have y1 := (cell_bel hB1 ⟨eb, 0, none⟩ leb1).trans e0
  have y2 := (cell_bel hB1 ⟨eb, 1, none⟩ leb1).trans e1
  have leb2 : eb < W2.heap.size := Nat.lt_of_lt_of_le leb1 hB1.size
  have lev2 : w.heap.size < W2.heap.size := Nat.lt_of_lt_of_le lev hB1.size
  have HC2 := hid (fun W' (hW : Below W2.heap.size W2 W') => HC.out W' (hB1.trans (hW.mono hB1.size)))
  have HB1 := hid hB1
  clear x0 x1 e0 e1 e2 e3 e4 e5 hB1 HC
  go_wp2
  go_region_held3 (fun W => W.cell? ⟨eb, 0, none⟩ = some (.slice ss P.steps.length cs) ∧ W.cell? ⟨eb, 1, none⟩ = some (.int .i64 P.win) ∧ W.cell? ⟨w.heap.size, 0, none⟩ = some (.int .i32 kind)) (go_keep) ((go_at_call 100; refine (HC2.out _ (by first | exact bel_drewN (Below.refl _ _) _ | exact Below.drew (Below.refl _ _) | exact Below.refl _ _)).mono ?_; rintro e w3 ⟨rfl, hb3⟩; have z0 := (cell_bel hb3 ⟨eb, 0, none⟩ leb2).trans y1; have z1 := (cell_bel hb3 ⟨eb, 1, none⟩ leb2).trans y2; have z2 := (cell_bel hb3 ⟨w.heap.size, 0, none⟩ lev2).trans y0; have H3 := hid hb3; clear hb3))
  have HB3 : Hid (Below W2.heap.size W2 w3) := hid (by first | exact H3.out | exact (bel_drewN (Below.refl _ _) _).trans H3.out | exact (Below.drew (Below.refl _ _)).trans H3.out)
  have hBw : Below w.heap.size w w3 := (HP.out.2.1.trans (HB1.out.mono HP.out.2.1.size)).trans (HB3.out.mono (by have := HP.out.2.1.size; have := HB1.out.size; omega))
  have hblk := (hBw.block _ leb).trans HP.out.1.blk
  obtain ⟨q0, q1, q2, q3, q4, q5, qf⟩ := six_cl hblk
  have HW := hid hBw
  clear qf hBw hblk
  go_wp2
  go_ret2
  exact ⟨rfl, HW.out⟩

set_option maxHeartbeats 4000000 in
set_option maxRecDepth 1000000 in
theorem eFeed_take (F : Nat → Prop) (eb : Nat) (P : En.Pat) (W Next kind time : Int) (vs vq vr : Value) (Q : List En.Ev) (A : List RV) (w : World) (h : PEng F w eb P W Next vs vq vr Q A) (hlt : W < time) (hPn : P.steps.length ≤ 100) (hN0 : 0 ≤ Next) (hN1 : Next ≤ 9007199254740992) (hh : (P.steps.any fun x => x.1 == kind) = true) (hp : En.Hp Q Q.length) (h12 : Q.length < 12) :
    Calls Tryz.prog 59 #[.pointer (some ⟨eb, 0, none⟩), .agg #[.int .i32 kind, .int .i64 time]] w (FdOk F eb P W Next vs vq vr (Q ++ [⟨Next, kind, time⟩]) A w) := by
  have leb := lt_of_block h.blk
  have h12' : decide ((12 : Int) ≤ (Q.length : Int)) = false := decide_eq_false (by omega)
  obtain ⟨aq, cq, rfl⟩ := own_slice h.wait
  have hal := (Below.refl w.heap.size w).alloc (Nat.le_refl _) (.cells #[.int .i32 kind, .int .i64 time] 39)
  have ha : (w.alloc (.cells #[.int .i32 kind, .int .i64 time] 39)).heap[w.heap.size]? = some (.cells #[.int .i32 kind, .int .i64 time] 39 (0, 0)) := heap_alloc_new w _
  generalize hW1 : w.alloc (.cells #[.int .i32 kind, .int .i64 time] 39) = W1 at hal ha
  obtain ⟨x0, x1, -⟩ := two_cl ha
  obtain ⟨e0, e1, e2, e3, e4, e5, ef⟩ := six_cl ((hal.block _ leb).trans h.blk)
  have hlt' : decide (time ≤ W) = false := decide_eq_false (by omega)
  obtain ⟨ss, cs, rfl, -, -⟩ := RowAt.slice h.steps
  have leb1 : eb < W1.heap.size := Nat.lt_of_lt_of_le leb hal.size
  have lev := lt_of_block ha
  have HC := hid (fun W' (hW : Below W1.heap.size W1 W') => pHas_any (fun b => F b ∧ b ≠ eb) (.slice ss P.steps.length cs) P.steps P.win kind W' ((h.steps.below hal).below hW) (by omega))
  rw [hh] at HC
  have HP := hid (And.intro h (And.intro hal hp))
  clear h ef hal ha hp
  go_enter Tryz.func59, Tryz.ntmps59
  go_wp2
  go_quiet (fail)
  revert nq; intro n1
  have hB1 : Below W1.heap.size W1 (W1.drewN n1) := bel_drewN (Below.refl _ _) _
  generalize W1.drewN n1 = W2 at hB1 ⊢
  have y0 := (cell_bel hB1 ⟨w.heap.size, 0, none⟩ lev).trans x0
  have y3 := (cell_bel hB1 ⟨w.heap.size, 1, none⟩ lev).trans x1
  have y1 := (cell_bel hB1 ⟨eb, 0, none⟩ leb1).trans e0
  have y2 := (cell_bel hB1 ⟨eb, 1, none⟩ leb1).trans e1
  have leb2 : eb < W2.heap.size := Nat.lt_of_lt_of_le leb1 hB1.size
  have lev2 : w.heap.size < W2.heap.size := Nat.lt_of_lt_of_le lev hB1.size
  have HC2 := hid (fun W' (hW : Below W2.heap.size W2 W') => HC.out W' (hB1.trans (hW.mono hB1.size)))
  have HB1 := hid hB1
  clear x0 x1 e0 e1 e2 e3 e4 e5 hB1 HC
  go_wp2
  go_region_held3 (fun W => W.cell? ⟨eb, 0, none⟩ = some (.slice ss P.steps.length cs) ∧ W.cell? ⟨eb, 1, none⟩ = some (.int .i64 P.win) ∧ W.cell? ⟨w.heap.size, 0, none⟩ = some (.int .i32 kind)) (go_keep) ((go_at_call 100; refine (HC2.out _ (by first | exact bel_drewN (Below.refl _ _) _ | exact Below.drew (Below.refl _ _) | exact Below.refl _ _)).mono ?_; rintro e w3 ⟨rfl, hb3⟩; have z0 := (cell_bel hb3 ⟨eb, 0, none⟩ leb2).trans y1; have z1 := (cell_bel hb3 ⟨eb, 1, none⟩ leb2).trans y2; have z2 := (cell_bel hb3 ⟨w.heap.size, 0, none⟩ lev2).trans y0; have H3 := hid hb3; clear hb3))
  have HB3 : Hid (Below W2.heap.size W2 w3) := hid (by first | exact H3.out | exact (bel_drewN (Below.refl _ _) _).trans H3.out | exact (Below.drew (Below.refl _ _)).trans H3.out)
  have hBw : Below w.heap.size w w3 := (HP.out.2.1.trans (HB1.out.mono HP.out.2.1.size)).trans (HB3.out.mono (by have := HP.out.2.1.size; have := HB1.out.size; omega))
  have hblk := (hBw.block _ leb).trans HP.out.1.blk
  obtain ⟨q0, q1, q2, q3, q4, q5, qf⟩ := six_cl hblk
  have t0 := (cell_bel HB3.out ⟨w.heap.size, 0, none⟩ lev2).trans y0
  have t1 := (cell_bel HB3.out ⟨w.heap.size, 1, none⟩ lev2).trans y3
  have hqb : ∀ c fz, w3.heap[eb]? ≠ some (.cells c 194 fz) := fun c fz e => by
    have := block_type e hblk
    exact absurd this (by decide)
  have lev3 : w.heap.size < w3.heap.size := Nat.lt_of_lt_of_le lev2 HB3.out.size
  have hvq : ∀ k, w.heap.size ≤ k → some k ≠ (Value.slice aq Q.length cq).ownBlock := fun k hk e => by
    obtain ⟨-, c, fz, h'⟩ := own_block HP.out.1.wait k e.symm
    have := lt_of_block h'
    omega
  have HA := hid (fun W' (hW : Below w3.heap.size w3 W') => qAdd_any 0 eb 4 (.slice aq Q.length cq) Q ⟨Next, kind, time⟩ W' (six_cl ((hW.block _ (lt_of_block hblk)).trans hblk)).2.2.2.2.1 ((six_cl ((hW.block _ (lt_of_block hblk)).trans hblk)).2.2.2.2.2.2 4) (own_below (own_below HP.out.1.wait hBw) hW) (fun c fz e => by
    rw [hW.block _ (lt_of_block hblk)] at e
    exact hqb c fz e) (by omega) (Nat.zero_le _) HP.out.2.2)
  have HW := hid (And.intro hBw (And.intro hblk hvq))
  have hw : IntKind.i64.wrap (Next + 1) = Next + 1 := wrap_small (by omega) (by omega)
  clear qf hBw hblk hqb z0 z1 z2 hvq
  go_wp2
  go_region_held3 (fun W => W.cell? ⟨eb, 3, none⟩ = some (.int .i64 Next) ∧ W.cell? ⟨w.heap.size, 0, none⟩ = some (.int .i32 kind) ∧ W.cell? ⟨w.heap.size, 1, none⟩ = some (.int .i64 time)) (go_keep) ((go_at_call 101; have BW : Below w3.heap.size w3 _ := (by first | exact bel_drewN (Below.refl _ _) _ | exact Below.drew (Below.refl _ _) | exact Below.refl _ _); refine (HA.out _ BW).mono ?_; rintro e w4 ⟨rfl, g, cap', l', hQ4, hp4, hh4, hT4, hg4⟩; have hb4 := hT4.self.trans (set6 ((BW.block _ (lt_of_block HW.out.2.1)).trans HW.out.2.1) _).2; obtain ⟨s0, s1, s2, s3, s4, s5, sf⟩ := six_cl hb4; have sf3 := sf 3; have u0 := (World.cell?_of_block (a := ⟨w.heap.size, 0, none⟩) (hT4.block w.heap.size (Nat.lt_of_lt_of_le lev3 BW.size) (by omega) (HW.out.2.2 _ (Nat.le_refl _)))).trans ((cell_bel BW ⟨w.heap.size, 0, none⟩ lev3).trans t0); have u1 := (World.cell?_of_block (a := ⟨w.heap.size, 1, none⟩) (hT4.block w.heap.size (Nat.lt_of_lt_of_le lev3 BW.size) (by omega) (HW.out.2.2 _ (Nat.le_refl _)))).trans ((cell_bel BW ⟨w.heap.size, 1, none⟩ lev3).trans t1); have H4 := hid (And.intro hQ4 (And.intro hp4 (And.intro hh4 (And.intro hb4 (And.intro hT4 (And.intro hg4 BW)))))); clear hQ4 hp4 hh4 hb4 hT4 hg4 BW sf))
  go_wp2
  have hset := (set6 H4.out.2.2.2.1 (.int .i64 (Next + 1))).1
  have hfr : ∀ k, k < w.heap.size → k ≠ eb → some k ≠ (Value.slice aq Q.length cq).ownBlock → (w4.setCell ⟨eb, 3, none⟩ (.int .i64 (Next + 1))).heap[k]? = w.heap[k]? := fun k hk hne hv =>
    (Below.heap_setCell _ _ _ _ hne).trans ((H4.out.2.2.2.2.1.block k (by have := HW.out.1.size; have := H4.out.2.2.2.2.2.2.size; omega) hne hv).trans ((H4.out.2.2.2.2.2.2.block k (by have := HW.out.1.size; omega)).trans (HW.out.1.block k hk)))
  have hsz : w.heap.size ≤ (w4.setCell ⟨eb, 3, none⟩ (.int .i64 (Next + 1))).heap.size := by
    have h1 := HW.out.1.size
    have h2 := H4.out.2.2.2.2.2.2.size
    have h3 := H4.out.2.2.2.2.1.size
    simp [World.setCell]
    omega
  go_ret2
  refine ⟨rfl, _, l', H4.out.2.1, H4.out.2.2.1, HP.out.1.turned hsz hfr hset (own_kept H4.out.1.row H4.out.2.2.2.1 (by decide) (grown_set _ _ _ _)) (fun g' hg' => ?_) (fun b hb => Or.inl hb), ?_, ?_, ?_, hsz, hfr⟩
  · have e : g = g' := by simpa [Value.ownBlock] using hg'
    subst e
    rcases H4.out.2.2.2.2.2.1 with h1 | h1
    · exact ⟨Or.inl (HP.out.1.wself g h1), Or.inl h1⟩
    · have h2 := HW.out.1.size
      have h3 := H4.out.2.2.2.2.2.2.size
      exact ⟨Or.inr ⟨by omega, by simp [Value.ownBlock], by intro y hy; cases hy⟩, Or.inr (by omega)⟩
  · exact (H4.out.2.2.2.2.1.os.trans H4.out.2.2.2.2.2.2.os).trans HW.out.1.os
  · exact (H4.out.2.2.2.2.1.tape.trans H4.out.2.2.2.2.2.2.tape).trans HW.out.1.tape
  · exact (H4.out.2.2.2.2.1.output.trans H4.out.2.2.2.2.2.2.output).trans HW.out.1.output

set_option maxHeartbeats 1000000 in
set_option maxRecDepth 1000000 in
theorem eNew_any (ss : Option Addr) (n cs : Nat) (win : Int) (w : World) :
    Calls Tryz.prog 84 #[.agg #[.slice ss n cs, .int .i64 win]] w fun e w' => ∃ eb, e = .returned (.pointer (some ⟨eb, 0, none⟩)) ∧ w.heap.size ≤ eb ∧ w'.heap[eb]? = some (.cells #[.slice ss n cs, .int .i64 win, .int .i64 (-9223372036854775808), .int .i64 0, .slice none 0 0, .slice none 0 0] 159 (0, 0)) ∧ Below w.heap.size w w' := by
  go_enter Tryz.func84, Tryz.ntmps84
  go_wp2
  go_ret
  exact ⟨_, rfl, by simp, new_at (by simp), by repeat (first | exact Below.refl _ _ | refine Below.drew ?_ | refine Below.alloc ?_ (by simp; try omega) _)⟩

end Go.Proofs.YtfldcmdhneegmaaGreatDoor

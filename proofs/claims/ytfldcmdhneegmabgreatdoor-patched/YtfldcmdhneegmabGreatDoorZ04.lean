import Derived.Test.YtfldcmdhneegmabGreatDoorVals
import Derived.Deep.RegionHeld2
import Derived.Test.YtfldcmdhneegmabGreatDoorZ00
import Derived.Deep.RegionWith

/-
  package engine's order of runs: WALKS of cmp.Compare, slices.Compare, byOffsets, byStep, inTurn.
-/
namespace Go.Proofs.YtfldcmdhneegmabGreatDoor
open Go.RowKit Go.Lib

namespace En
def cmpI (x y : Int) : Int := if x < y then -1 else if y < x then 1 else 0
def cmpL : List Int → List Int → Int
  | [], [] => 0
  | [], _ :: _ => -1
  | _ :: _, [] => 1
  | x :: a, y :: b => if cmpI x y = 0 then cmpL a b else cmpI x y
def cmpR (r s : Rn) : Int := if cmpL r.offs s.offs = 0 then cmpI r.step s.step else cmpL r.offs s.offs
end En

set_option maxHeartbeats 1000000 in
theorem cmpNaN_any (x : Int) (w : World) : Calls Tryz.prog 220 #[.int .i64 x] w fun e w' => e = .returned (.bool false) ∧ w' = w := by
  go_enter Tryz.func220, Tryz.ntmps220
  go_wp2
  go_ret
  exact ⟨by simp, rfl⟩

set_option maxHeartbeats 1000000 in
theorem cmpInt_any (x y : Int) (w : World) : Calls Tryz.prog 206 #[.int .i64 x, .int .i64 y] w fun e w' => e = .returned (.int .i64 (En.cmpI x y)) ∧ w' = w := by
  by_cases h1 : x < y
  · have e1 : En.cmpI x y = -1 := by unfold En.cmpI; rw [if_pos h1]
    rw [e1]
    go_enter Tryz.func206, Tryz.ntmps206
    go_wp2_with (go_at_call 220; refine (cmpNaN_any _ _).mono ?_; rintro e w1 ⟨rfl, hw⟩; subst hw)
    go_ret
    exact ⟨rfl, rfl⟩
  · have d1 : decide (x < y) = false := decide_eq_false h1
    by_cases h2 : y < x
    · have e1 : En.cmpI x y = 1 := by unfold En.cmpI; rw [if_neg h1, if_pos h2]
      rw [e1]
      clear h1
      go_enter Tryz.func206, Tryz.ntmps206
      go_wp2_with (go_at_call 220; refine (cmpNaN_any _ _).mono ?_; rintro e w1 ⟨rfl, hw⟩; subst hw)
      go_ret
      exact ⟨rfl, rfl⟩
    · have e1 : En.cmpI x y = 0 := by unfold En.cmpI; rw [if_neg h1, if_neg h2]
      have d2 : decide (y < x) = false := decide_eq_false h2
      rw [e1]
      clear h1 h2
      go_enter Tryz.func206, Tryz.ntmps206
      go_wp2_with (go_at_call 220; refine (cmpNaN_any _ _).mono ?_; rintro e w1 ⟨rfl, hw⟩; subst hw)
      go_ret
      exact ⟨rfl, rfl⟩

set_option maxHeartbeats 2000000 in
set_option maxRecDepth 1000000 in
theorem sCompare_any (F G : Nat → Prop) (v u : Value) (xs ys : List Int) (w : World) (hv : IntsAt F w v xs) (hu : IntsAt G w u ys) :
    Calls Tryz.prog 205 #[v, u] w fun e w' => e = .returned (.int .i64 (En.cmpL xs ys)) ∧ w' = w := by
  obtain ⟨ao, cap, rfl, -, -⟩ := RowAt.slice hv
  obtain ⟨bo, cap', rfl, -, -⟩ := RowAt.slice hu
  have hm := hv.maxLen
  have hm' := hu.maxLen
  have H := hid (And.intro hv hu)
  clear hv hu
  go_enter Tryz.func205, Tryz.ntmps205
  go_wp2
  go_loopw [11] (fun i wr => ∃ k : Nat, k ≤ xs.length ∧ k ≤ ys.length ∧ i = .int .i64 k ∧ wr = w ∧ Hid (En.cmpL (xs.drop k) (ys.drop k) = En.cmpL xs ys)) (fun i _ => xs.length - (intOf i).toNat)
  case atStart => exact ⟨0, by omega, by omega, rfl, rfl, rfl⟩
  case round =>
    obtain ⟨k, hk, hk', rfl, rfl, hr⟩ := hrel
    by_cases hx : k < xs.length
    · have hx' : (k : Int) < xs.length := by omega
      obtain ⟨b1, o1, rfl, c1⟩ := H.out.1.get hx
      have ex : xs.drop k = xs[k] :: xs.drop (k + 1) := List.drop_eq_getElem_cons hx
      by_cases hy : k < ys.length
      · have hy' : (k : Int) < ys.length := by omega
        have hd : decide ((ys.length : Int) ≤ (k : Int)) = false := decide_eq_false (by omega)
        obtain ⟨b2, o2, rfl, c2⟩ := H.out.2.get hy
        have ey : ys.drop k = ys[k] :: ys.drop (k + 1) := List.drop_eq_getElem_cons hy
        have e2 : En.cmpL (xs.drop k) (ys.drop k) = if En.cmpI xs[k] ys[k] = 0 then En.cmpL (xs.drop (k + 1)) (ys.drop (k + 1)) else En.cmpI xs[k] ys[k] := by rw [ex, ey]; rfl
        have HE := hid e2
        clear ex ey e2
        generalize xs[k] = x at *
        generalize ys[k] = y at *
        by_cases hc : En.cmpI x y = 0
        · have hcb : (En.cmpI x y != 0) = false := by simpa using hc
          have HC := hid hc
          clear hc
          go_wp2_with (go_at_call 206; refine (cmpInt_any _ _ _).mono ?_; rintro e w1 ⟨rfl, hw⟩; have hw' := hw.symm; subst hw')
          refine ⟨⟨k + 1, by omega, by omega, by go_num, by first | rfl | trivial, ?_⟩, by simp [intOf]; omega⟩
          have h1 := HE.out
          rw [if_pos HC.out] at h1
          exact h1.symm.trans hr.out
        · have hcb : (En.cmpI x y != 0) = true := by simpa using hc
          have HC := hid hc
          clear hc
          go_wp2_with (go_at_call 206; refine (cmpInt_any _ _ _).mono ?_; rintro e w1 ⟨rfl, hw⟩; have hw' := hw.symm; subst hw')
          go_ret
          refine ⟨?_, rfl⟩
          have h1 := HE.out
          rw [if_neg HC.out] at h1
          rw [← hr.out, h1]
          rfl
      · have hd : decide ((ys.length : Int) ≤ (k : Int)) = true := decide_eq_true (by omega)
        have ey : ys.drop k = [] := List.drop_eq_nil_of_le (by omega)
        have e1 : En.cmpL xs ys = 1 := by rw [← hr.out, ex, ey]; rfl
        have HE1 := hid e1
        clear e1
        clear ex ey
        go_wp2
        go_ret
        exact ⟨by rw [HE1.out]; rfl, rfl⟩
    · obtain rfl : k = xs.length := by omega
      have ex : xs.drop xs.length = [] := List.drop_length
      by_cases hy : xs.length < ys.length
      · have ey : ys.drop xs.length = ys[xs.length] :: ys.drop (xs.length + 1) := List.drop_eq_getElem_cons hy
        have e1 : En.cmpL xs ys = -1 := by rw [← hr.out, ex, ey]; rfl
        have HE1 := hid e1
        clear e1
        have hd : decide ((xs.length : Int) < (ys.length : Int)) = true := decide_eq_true (by omega)
        clear ex ey
        go_wp2
        go_ret
        exact ⟨by rw [HE1.out]; rfl, rfl⟩
      · have ey : ys.drop xs.length = [] := List.drop_eq_nil_of_le (by omega)
        have e1 : En.cmpL xs ys = 0 := by rw [← hr.out, ex, ey]; rfl
        have HE1 := hid e1
        clear e1
        have hd : decide ((xs.length : Int) < (ys.length : Int)) = false := decide_eq_false (by omega)
        clear ex ey
        go_wp2
        go_ret
        exact ⟨by rw [HE1.out]; rfl, rfl⟩

/-- A run, as it is handed to a function. -/
def rval (x : RV) : Value := .agg #[.int .i64 x.1.step, x.2, .int .i64 x.1.first]

set_option maxHeartbeats 2000000 in
set_option maxRecDepth 1000000 in
theorem byOffsets_any (F G : Nat → Prop) (x y : RV) (w : World) (hx : IntsAt F w x.2 x.1.offs) (hy : IntsAt G w y.2 y.1.offs) :
    Calls Tryz.prog 178 #[rval x, rval y] w fun e w' => e = .returned (.int .i64 (En.cmpL x.1.offs y.1.offs)) ∧ Below w.heap.size w w' := by
  obtain ⟨⟨s, xs, fst⟩, v⟩ := x
  obtain ⟨⟨s', ys, fst'⟩, u⟩ := y
  dsimp only at hx hy ⊢
  unfold rval
  dsimp only
  obtain ⟨ao, cap, rfl, -, -⟩ := RowAt.slice hx
  obtain ⟨bo, cap', rfl, -, -⟩ := RowAt.slice hy
  have HC := hid (fun W (hb : Below w.heap.size w W) => sCompare_any F G _ _ xs ys W (hx.below hb) (hy.below hb))
  clear hx hy
  go_enter Tryz.func178, Tryz.ntmps178
  go_wp2_with (go_at_call 205; refine (HC.out _ (((Below.refl _ _).alloc (Nat.le_refl _) _).alloc (by simp) _)).mono ?_; rintro e w1 ⟨rfl, hw⟩; have hw' := hw.symm; subst hw')
  go_ret
  exact ⟨rfl, ((Below.refl _ _).alloc (Nat.le_refl _) _).alloc (by simp) _⟩

set_option maxHeartbeats 2000000 in
set_option maxRecDepth 1000000 in
theorem byStep_any (x y : RV) (w : World) (hx : ∃ a n c, x.2 = .slice a n c) (hy : ∃ a n c, y.2 = .slice a n c) :
    Calls Tryz.prog 179 #[rval x, rval y] w fun e w' => e = .returned (.int .i64 (En.cmpI x.1.step y.1.step)) ∧ Below w.heap.size w w' := by
  obtain ⟨⟨s, xs, fst⟩, v⟩ := x
  obtain ⟨⟨s', ys, fst'⟩, u⟩ := y
  obtain ⟨a, n, c, rfl⟩ := hx
  obtain ⟨a', n', c', rfl⟩ := hy
  unfold rval
  dsimp only
  go_enter Tryz.func179, Tryz.ntmps179
  go_wp2_with (go_at_call 206; refine (cmpInt_any _ _ _).mono ?_; rintro e w1 ⟨rfl, hw⟩; have hw' := hw.symm; subst hw')
  go_ret
  exact ⟨rfl, ((Below.refl _ _).alloc (Nat.le_refl _) _).alloc (by simp) _⟩

/-- The order of runs, as a function value: its two orders lie in block sb, the variable in block ob. -/
def OrdAt (w : World) (ob : Nat) : Prop := ∃ sb, w.heap[ob]? = some (.cells #[.slice (some ⟨sb, 0, none⟩) 2 2] 309 (0, 0)) ∧ w.heap[sb]? = some (.cells #[.func (.func 178) #[] #[], .func (.func 179) #[] #[]] 227 (0, 0))
theorem OrdAt.below {w w' : World} {ob : Nat} (h : OrdAt w ob) (hb : Below w.heap.size w w') : OrdAt w' ob := by
  obtain ⟨sb, h1, h2⟩ := h
  exact ⟨sb, (hb.block _ (lt_of_block h1)).trans h1, (hb.block _ (lt_of_block h2)).trans h2⟩

set_option maxHeartbeats 2000000 in
set_option maxRecDepth 1000000 in
theorem runOrder_any (w : World) : Calls Tryz.prog 135 #[] w fun e w' => ∃ ob, e = .returned (.func (.func 204) #[] #[.pointer (some ⟨ob, 0, none⟩)]) ∧ OrdAt w' ob ∧ Below w.heap.size w w' := by
  go_enter Tryz.func135, Tryz.ntmps135
  go_wp2
  go_ret
  refine ⟨w.heap.size + 1, rfl, ⟨w.heap.size, new_at (by simp), (Below.heap_alloc _ _ _ (by simp)).trans (heap_alloc_new w _)⟩, ((Below.refl _ _).alloc (Nat.le_refl _) _).alloc (by simp) _⟩

set_option maxHeartbeats 2000000 in
set_option maxRecDepth 1000000 in
theorem inTurn1_any (F G : Nat → Prop) (ob : Nat) (x y : RV) (w : World) (hO : OrdAt w ob) (hx : IntsAt F w x.2 x.1.offs) (hy : IntsAt G w y.2 y.1.offs) :
    Calls Tryz.prog 204 #[rval x, rval y, .pointer (some ⟨ob, 0, none⟩)] w fun e w' => e = .returned (.int .i64 (En.cmpR x.1 y.1)) ∧ Below w.heap.size w w' := by
  obtain ⟨sb, h1, h2⟩ := hO
  obtain ⟨⟨s, xs, fst⟩, v⟩ := x
  obtain ⟨⟨s', ys, fst'⟩, u⟩ := y
  dsimp only at hx hy ⊢
  obtain ⟨ao, cap, rfl, -, -⟩ := RowAt.slice hx
  obtain ⟨bo, cap', rfl, -, -⟩ := RowAt.slice hy
  obtain ⟨W2, hW2⟩ : ∃ W, (w.alloc (.cells #[.int .i64 s, .slice ao xs.length cap, .int .i64 fst] 86)).alloc (.cells #[.int .i64 s', .slice bo ys.length cap', .int .i64 fst'] 86) = W := ⟨_, rfl⟩
  have hb2 : Below w.heap.size w W2 := by rw [← hW2]; exact ((Below.refl _ _).alloc (Nat.le_refl _) _).alloc (by simp) _
  have kA : W2.heap[w.heap.size]? = some (.cells #[.int .i64 s, .slice ao xs.length cap, .int .i64 fst] 86 (0, 0)) := by rw [← hW2]; exact (Below.heap_alloc _ _ _ (by simp)).trans (heap_alloc_new w _)
  have kB : W2.heap[w.heap.size + 1]? = some (.cells #[.int .i64 s', .slice bo ys.length cap', .int .i64 fst'] 86 (0, 0)) := by rw [← hW2]; exact new_at (by simp)
  have k1 := (hb2.block _ (lt_of_block h1)).trans h1
  have k2 := (hb2.block _ (lt_of_block h2)).trans h2
  have HK : Hid (∀ W, Below W2.heap.size W2 W → W.cell? ⟨ob, 0, none⟩ = some (.slice (some ⟨sb, 0, none⟩) 2 2) ∧ W.cell? ⟨sb, 0, none⟩ = some (.func (.func 178) #[] #[]) ∧ W.cell? ⟨sb, 1, none⟩ = some (.func (.func 179) #[] #[]) ∧ W.cell? ⟨w.heap.size, 0, none⟩ = some (.int .i64 s) ∧ W.cell? ⟨w.heap.size, 1, none⟩ = some (.slice ao xs.length cap) ∧ W.cell? ⟨w.heap.size, 2, none⟩ = some (.int .i64 fst) ∧ W.cell? ⟨w.heap.size + 1, 0, none⟩ = some (.int .i64 s') ∧ W.cell? ⟨w.heap.size + 1, 1, none⟩ = some (.slice bo ys.length cap') ∧ W.cell? ⟨w.heap.size + 1, 2, none⟩ = some (.int .i64 fst')) := fun W hW => by
    have e1 := (hW.block _ (lt_of_block k1)).trans k1
    have e2 := (hW.block _ (lt_of_block k2)).trans k2
    have e3 := (hW.block _ (lt_of_block kA)).trans kA
    have e4 := (hW.block _ (lt_of_block kB)).trans kB
    simp [World.cell?, e1, e2, e3, e4]
  have HB := hid (And.intro hb2 (And.intro hx hy))
  obtain ⟨c1, c2, c3, d0, d1, d2, d3, d4, d5⟩ := HK.out W2 (Below.refl _ _)
  have HO : Hid (∀ W, Below W2.heap.size W2 W → Calls Tryz.prog 178 #[.agg #[.int .i64 s, .slice ao xs.length cap, .int .i64 fst], .agg #[.int .i64 s', .slice bo ys.length cap', .int .i64 fst']] W fun e w' => e = .returned (.int .i64 (En.cmpL xs ys)) ∧ Below W.heap.size W w') := fun W hW => byOffsets_any F G (⟨s, xs, fst⟩, .slice ao xs.length cap) (⟨s', ys, fst'⟩, .slice bo ys.length cap') W (hx.below (hb2.trans (hW.mono hb2.size))) (hy.below (hb2.trans (hW.mono hb2.size)))
  have HT : Hid (∀ W, Calls Tryz.prog 179 #[.agg #[.int .i64 s, .slice ao xs.length cap, .int .i64 fst], .agg #[.int .i64 s', .slice bo ys.length cap', .int .i64 fst']] W fun e w' => e = .returned (.int .i64 (En.cmpI s s')) ∧ Below W.heap.size W w') := fun W => byStep_any (⟨s, xs, fst⟩, .slice ao xs.length cap) (⟨s', ys, fst'⟩, .slice bo ys.length cap') W ⟨_, _, _, rfl⟩ ⟨_, _, _, rfl⟩
  have e0 : En.cmpR ⟨s, xs, fst⟩ ⟨s', ys, fst'⟩ = if En.cmpL xs ys = 0 then En.cmpI s s' else En.cmpL xs ys := rfl
  unfold rval
  dsimp only
  by_cases hc : En.cmpL xs ys = 0
  · rw [if_pos hc] at e0
    have HE := hid e0
    have hcb : (En.cmpL xs ys != 0) = false := by simpa using hc
    by_cases hd : En.cmpI s s' = 0
    · have hdb : (En.cmpI s s' != 0) = false := by simpa using hd
      have HD := hid hd
      clear hx hy h1 h2 kA kB k1 k2 hb2 hc e0 hd
      go_enter Tryz.func204, Tryz.ntmps204
      go_wp2
      refine wp_loop_rounds 3 ?_
      rw [rounds_succ]
      go_wp2_with (go_at_call 178; refine (HO.out _ (Below.refl _ _)).mono ?_; rintro e w1 ⟨rfl, hb1⟩; obtain ⟨c1', c2', c3', d0', d1', d2', d3', d4', d5'⟩ := HK.out w1 hb1; have H1 := hid hb1; clear hb1)
      rw [rounds_succ]
      go_wp2_with (go_at_call 179; refine (HT.out _).mono ?_; rintro e w2 ⟨rfl, hb2⟩; have H2 := hid (H1.out.trans (hb2.mono H1.out.size)); clear hb2)
      rw [rounds_succ]
      go_wp2
      go_ret
      exact ⟨by rw [HE.out, HD.out]; rfl, HB.out.1.trans (H2.out.mono HB.out.1.size)⟩
    · have hdb : (En.cmpI s s' != 0) = true := by simpa using hd
      clear hx hy h1 h2 kA kB k1 k2 hb2 hc e0 hd
      go_enter Tryz.func204, Tryz.ntmps204
      go_wp2
      refine wp_loop_rounds 3 ?_
      rw [rounds_succ]
      go_wp2_with (go_at_call 178; refine (HO.out _ (Below.refl _ _)).mono ?_; rintro e w1 ⟨rfl, hb1⟩; obtain ⟨c1', c2', c3', d0', d1', d2', d3', d4', d5'⟩ := HK.out w1 hb1; have H1 := hid hb1; clear hb1)
      rw [rounds_succ]
      go_wp2_with (go_at_call 179; refine (HT.out _).mono ?_; rintro e w2 ⟨rfl, hb2⟩; have H2 := hid (H1.out.trans (hb2.mono H1.out.size)); clear hb2)
      go_ret
      exact ⟨by rw [HE.out]; rfl, HB.out.1.trans (H2.out.mono HB.out.1.size)⟩
  · rw [if_neg hc] at e0
    have HE := hid e0
    have hcb : (En.cmpL xs ys != 0) = true := by simpa using hc
    clear hx hy h1 h2 kA kB k1 k2 hb2 hc e0
    go_enter Tryz.func204, Tryz.ntmps204
    go_wp2
    refine wp_loop_rounds 2 ?_
    rw [rounds_succ]
    go_wp2_with (go_at_call 178; refine (HO.out _ (Below.refl _ _)).mono ?_; rintro e w1 ⟨rfl, hb1⟩; have H1 := hid hb1; clear hb1)
    go_ret
    exact ⟨by rw [HE.out]; rfl, HB.out.1.trans (H1.out.mono HB.out.1.size)⟩

end Go.Proofs.YtfldcmdhneegmabGreatDoor

/-
  package engine's queue: WALKS, 1: Len, Less, Swap.
-/
namespace Go.Proofs.YtfldcmdhneegmabGreatDoor
open Go.RowKit Go.Lib

/-- A queue's row, of the call's own from base on. -/
def QRow (base : Nat) (w : World) (v : Value) (l : List En.Ev) : Prop := w.ownsRow base 140 3 v l.length (evCells l)
theorem QRow.evs {base : Nat} {w : World} {v : Value} {l : List En.Ev} (h : QRow base w v l) : EvsAt (fun b => base ≤ b) w v l := RowAt.ofOwn h

set_option maxHeartbeats 1000000 in
theorem qLen_any (ao : Option Addr) (n cap : Nat) (w : World) :
    Calls Tryz.prog 267 #[.slice ao n cap] w fun e w' => e = .returned (.int .i64 n) ∧ w' = w := by
  go_enter Tryz.func267, Tryz.ntmps267
  go_wp2
  go_ret
  exact ⟨rfl, rfl⟩

set_option maxHeartbeats 2000000 in
set_option maxRecDepth 1000000 in
theorem qLess_any (F : Nat → Prop) (v : Value) (l : List En.Ev) (i j : Nat) (w : World) (h : EvsAt F w v l) (hi : i < l.length) (hj : j < l.length) :
    Calls Tryz.prog 159 #[v, .int .i64 i, .int .i64 j] w fun e w' => e = .returned (.bool (En.evLt (En.nth l i) (En.nth l j))) ∧ ∃ q, w' = w.drewN q := by
  obtain ⟨ao, cap, rfl, -, -⟩ := RowAt.slice h
  obtain ⟨b1, o1, hb, -, d0, d1, d2⟩ := EvsAt.get h hi
  obtain ⟨b2, o2, hb2, -, e0, e1, e2⟩ := EvsAt.get h hj
  rw [En.nth_eq hi, En.nth_eq hj]
  subst hb
  cases hb2
  generalize l[i] = x at *
  generalize l[j] = y at *
  have hi' : (i : Int) < l.length := by omega
  have hj' : (j : Int) < l.length := by omega
  clear h
  by_cases ht : x.time = y.time
  · have ht' : (x.time != y.time) = false := by simpa using ht
    have HT := hid ht
    clear ht
    go_enter Tryz.func159, Tryz.ntmps159
    go_wp2
    go_quiet (fail)
    go_wp2
    go_quiet (fail)
    go_wp2
    go_ret
    refine ⟨?_, by first | exact ⟨_, rfl⟩ | exact ⟨_, World.drewN_drewN _ _ _⟩⟩
    have := HT.out
    simp [En.evLt, this]
  · have ht' : (x.time != y.time) = true := by simpa using ht
    have HT := hid ht
    clear ht
    go_enter Tryz.func159, Tryz.ntmps159
    go_wp2
    go_quiet (fail)
    go_wp2
    go_quiet (fail)
    go_wp2
    go_ret
    refine ⟨?_, by first | exact ⟨_, rfl⟩ | exact ⟨_, World.drewN_drewN _ _ _⟩⟩
    have := HT.out
    simp [En.evLt, this]

/-- A cell of an own row is written. -/
theorem own_write {w : World} {base : Nat} {e : TypeId} {size g cap n : Nat} {xs : List Value} (h : w.ownsRow base e size (.slice (some ⟨g, 0, none⟩) n cap) n xs) (k : Nat) (u : Value) :
    (w.setCell ⟨g, k, none⟩ u).ownsRow base e size (.slice (some ⟨g, 0, none⟩) n cap) n (xs.set k u) := by
  obtain ⟨h1, h2⟩ := h
  refine ⟨by rw [List.length_set]; exact h1, ?_⟩
  rcases h2 with ⟨he, -⟩ | ⟨g', cap', cur, he, hb, hg, hn, hc, hs, ht⟩
  · cases he
  · cases he
    have hlt := lt_of_block hg
    have hg' : w.heap[g] = .cells cur e (0, 0) := by simpa [Array.getElem?_eq_getElem hlt] using hg
    refine Or.inr ⟨g, cap, cur.setIfInBounds k u, rfl, hb, ?_, hn, hc, by simpa using hs, ?_⟩
    · show (w.heap.modify g _)[g]? = _
      rw [Array.getElem?_eq_getElem (by simpa using hlt), Array.getElem_modify_self, hg']
      rfl
    · rw [Array.toList_setIfInBounds, List.take_set, ht]
theorem evCells_set (l : List En.Ev) (i : Nat) (x : En.Ev) : (((evCells l).set (i * 3) (.int .i64 x.off)).set (i * 3 + 1) (.int .i32 x.kind)).set (i * 3 + 2) (.int .i64 x.time) = evCells (l.set i x) := by
  induction l generalizing i with
  | nil => simp [evCells]
  | cons y t ih =>
    cases i with
    | zero => simp [evCells]
    | succ i =>
      have e1 : (i + 1) * 3 = i * 3 + 1 + 1 + 1 := by omega
      have := ih i
      simp only [evCells, List.flatMap_cons, List.set_cons_succ] at this ⊢
      rw [e1]
      simp only [List.cons_append, List.nil_append, List.set_cons_succ]
      rw [this]
theorem QRow.len {base : Nat} {w : World} {ao : Option Addr} {n cap : Nat} {l : List En.Ev} (h : QRow base w (.slice ao n cap) l) : n = l.length := by
  rcases h.2 with ⟨he, h0⟩ | ⟨g, cap', cur, he, -⟩
  · cases he; exact h0.symm
  · cases he; rfl
theorem QRow.set {base : Nat} {w : World} {g n cap : Nat} {l : List En.Ev} (h : QRow base w (.slice (some ⟨g, 0, none⟩) n cap) l) (i : Nat) (x : En.Ev) :
    QRow base (((w.setCell ⟨g, i * 3, none⟩ (.int .i64 x.off)).setCell ⟨g, i * 3 + 1, none⟩ (.int .i32 x.kind)).setCell ⟨g, i * 3 + 2, none⟩ (.int .i64 x.time)) (.slice (some ⟨g, 0, none⟩) n cap) (l.set i x) := by
  have hn := h.len
  subst hn
  unfold QRow at h ⊢
  have h1 := own_write h (i * 3) (.int .i64 x.off)
  have h2 := own_write h1 (i * 3 + 1) (.int .i32 x.kind)
  have h3 := own_write h2 (i * 3 + 2) (.int .i64 x.time)
  rw [evCells_set] at h3
  rw [List.length_set]
  exact h3
theorem QRow.drew {base : Nat} {w : World} {v : Value} {l : List En.Ev} (h : QRow base w v l) : QRow base w.drew v l := h
theorem QRow.drewN {base : Nat} {w : World} {v : Value} {l : List En.Ev} (h : QRow base w v l) (q : Nat) : QRow base (w.drewN q) v l := h
theorem grown_set (w : World) (g m : Nat) (u : Value) : w.grownBy (w.setCell ⟨g, m, none⟩ u) (some g) := by
  refine ⟨rfl, rfl, rfl, by simp [World.setCell], fun k hk hne => ?_⟩
  have hne' : g ≠ k := fun e => hne (by rw [e])
  show (w.heap.modify g _)[k]? = _
  rw [Array.getElem?_modify, if_neg hne']
theorem grown_trans {w w1 w2 : World} {r : Option Nat} (h : w.grownBy w1 r) (h' : w1.grownBy w2 r) : w.grownBy w2 r :=
  ⟨h'.os.trans h.os, h'.tape.trans h.tape, h'.output.trans h.output, Nat.le_trans h.size h'.size, fun k hk hne => (h'.block k (Nat.lt_of_lt_of_le hk h.size) hne).trans (h.block k hk hne)⟩
theorem grown_drew {w w1 : World} {r : Option Nat} (h : w.grownBy w1 r) : w.grownBy w1.drew r := ⟨h.os, h.tape, h.output, h.size, h.block⟩
theorem grown_drewN {w w1 : World} {r : Option Nat} (h : w.grownBy w1 r) (q : Nat) : w.grownBy (w1.drewN q) r := ⟨h.os, h.tape, h.output, h.size, h.block⟩
theorem grown_refl (w : World) (r : Option Nat) : w.grownBy w r := ⟨rfl, rfl, rfl, Nat.le_refl _, fun _ _ _ => rfl⟩
theorem cell_put (w : World) (g k m : Nat) (v : Value) (h : w.cell? ⟨g, k, none⟩ = some v) : (w.setCell ⟨g, m, none⟩ v).cell? ⟨g, k, none⟩ = some v := by
  by_cases e : k = m
  · subst e
    exact World.cell?_setCell_same _ _ _ h
  · exact (World.cell?_setCell_other w ⟨g, m, none⟩ ⟨g, k, none⟩ v (fun h => e (by cases h; rfl))).trans h
theorem cell_keep (w : World) (g k m : Nat) (u v : Value) (hne : k ≠ m) (h : w.cell? ⟨g, k, none⟩ = some v) : (w.setCell ⟨g, m, none⟩ u).cell? ⟨g, k, none⟩ = some v :=
  (World.cell?_setCell_other w ⟨g, m, none⟩ ⟨g, k, none⟩ u (fun h => hne (by cases h; rfl))).trans h

set_option maxHeartbeats 2000000 in
set_option maxRecDepth 1000000 in
theorem qSwap_any (base g cap : Nat) (l : List En.Ev) (i j : Nat) (w : World) (h : QRow base w (.slice (some ⟨g, 0, none⟩) l.length cap) l) (hi : i < l.length) (hj : j < l.length) :
    Calls Tryz.prog 268 #[.slice (some ⟨g, 0, none⟩) l.length cap, .int .i64 i, .int .i64 j] w fun e w' => e = .returned (.tuple #[]) ∧ QRow base w' (.slice (some ⟨g, 0, none⟩) l.length cap) (En.swap l i j) ∧ w.grownBy w' (some g) := by
  obtain ⟨b1, o1, hb, -, d0, d1, d2⟩ := EvsAt.get h.evs hi
  obtain ⟨b2, o2, hb2, -, e0, e1, e2⟩ := EvsAt.get h.evs hj
  cases hb
  cases hb2
  have hfz : ∀ k, w.frozen? ⟨g, k, none⟩ = false := by
    intro k
    rcases h.2 with ⟨he, -⟩ | ⟨g', cap', cur, he, hb, hg, -⟩
    · cases he
    · cases he
      simp [World.frozen?, hg]
  simp only [Nat.zero_add] at d0 d1 d2 e0 e1 e2
  have hsw : En.swap l i j = (l.set i l[j]).set j l[i] := by unfold En.swap; rw [En.nth_eq hi, En.nth_eq hj]
  have H := hid (And.intro hsw h)
  clear hsw h
  generalize hx : l[i] = x at *
  generalize hy : l[j] = y at *
  have hi' : (i : Int) < l.length := by omega
  have hj' : (j : Int) < l.length := by omega
  have g0 := hfz (i * 3)
  have g1 := hfz (i * 3 + 1)
  have g2 := hfz (i * 3 + 2)
  have g3 := hfz (j * 3)
  have g4 := hfz (j * 3 + 1)
  have g5 := hfz (j * 3 + 2)
  have k0 := cell_put w g (j * 3) (i * 3) _ e0
  have k1 := cell_put _ g (j * 3 + 1) (i * 3 + 1) _ (cell_keep w g (j * 3 + 1) (i * 3) (.int .i64 y.off) _ (by omega) e1)
  have k2 := cell_put _ g (j * 3 + 2) (i * 3 + 2) _ (cell_keep _ g (j * 3 + 2) (i * 3 + 1) (.int .i32 y.kind) _ (by omega) (cell_keep w g (j * 3 + 2) (i * 3) (.int .i64 y.off) _ (by omega) e2))
  go_enter Tryz.func268, Tryz.ntmps268
  go_wp2
  go_region
  all_goals
    go_wp2
    go_end0
    refine ⟨rfl, ?_, ?_⟩
    · rw [H.out.1]
      exact QRow.drew (QRow.set (QRow.set H.out.2 i y) j x)
    · exact grown_drew (grown_trans (grown_trans (grown_trans (grown_trans (grown_trans (grown_set w g _ _) (grown_set _ g _ _)) (grown_set _ g _ _)) (grown_set _ g _ _)) (grown_set _ g _ _)) (grown_set _ g _ _))

end Go.Proofs.YtfldcmdhneegmabGreatDoor

/-
  PLAIN: the program's order of runs.
-/
namespace Go.Proofs.YtfldcmdhneegmabGreatDoor
namespace En

theorem cmpI_rev (x y : Int) : cmpI y x = -cmpI x y := by
  unfold cmpI
  split <;> split <;> first | omega | (split <;> omega)
theorem cmpI_cases (x y : Int) : (cmpI x y = -1 ∧ x < y) ∨ (cmpI x y = 0 ∧ x = y) ∨ (cmpI x y = 1 ∧ y < x) := by
  unfold cmpI
  by_cases h1 : x < y
  · left; rw [if_pos h1]; exact ⟨rfl, h1⟩
  · by_cases h2 : y < x
    · right; right; rw [if_neg h1, if_pos h2]; exact ⟨rfl, h2⟩
    · right; left; rw [if_neg h1, if_neg h2]; exact ⟨rfl, by omega⟩
theorem cmpL_rev : ∀ a b : List Int, cmpL b a = -cmpL a b
  | [], [] => rfl
  | [], _ :: _ => rfl
  | _ :: _, [] => rfl
  | x :: a, y :: b => by
    unfold cmpL
    rw [cmpI_rev x y]
    by_cases h : cmpI x y = 0
    · rw [if_pos h, if_pos (by omega), cmpL_rev a b]
    · rw [if_neg h, if_neg (by omega)]
theorem cmpL_eq : ∀ {a b : List Int}, cmpL a b = 0 ↔ a = b
  | [], [] => by simp [cmpL]
  | [], _ :: _ => by simp [cmpL]
  | _ :: _, [] => by simp [cmpL]
  | x :: a, y :: b => by
    unfold cmpL
    rcases cmpI_cases x y with ⟨h, h'⟩ | ⟨h, h'⟩ | ⟨h, h'⟩
    · rw [h]; simp; omega
    · rw [h, if_pos rfl, cmpL_eq, h']; simp
    · rw [h]; simp; omega
theorem cmpL_trans : ∀ (a b c : List Int), 0 ≤ cmpL b a → 0 ≤ cmpL c b → 0 ≤ cmpL c a ∧ (cmpL c a = 0 → cmpL b a = 0 ∧ cmpL c b = 0)
  | [], [], [], _, _ => by simp [cmpL]
  | [], [], _ :: _, _, _ => by simp [cmpL]
  | [], _ :: _, [], _, h => by simp [cmpL] at h
  | [], _ :: _, _ :: _, _, _ => by simp [cmpL]
  | _ :: _, [], _, h, _ => by simp [cmpL] at h
  | _ :: _, _ :: _, [], _, h => by simp [cmpL] at h
  | x :: a, y :: b, z :: c, h1, h2 => by
    unfold cmpL at h1 h2 ⊢
    have ih := cmpL_trans a b c
    rcases cmpI_cases y x with ⟨e1, k1⟩ | ⟨e1, k1⟩ | ⟨e1, k1⟩
    · rw [e1] at h1; simp at h1
    · rw [e1, if_pos rfl] at h1 ⊢
      subst k1
      rcases cmpI_cases z y with ⟨e2, k2⟩ | ⟨e2, k2⟩ | ⟨e2, k2⟩
      · rw [e2] at h2; simp at h2
      · rw [e2, if_pos rfl] at h2 ⊢
        rw [if_pos rfl]
        exact ih h1 h2
      · rw [e2]; simp
    · rw [e1] at h1 ⊢
      rcases cmpI_cases z y with ⟨e2, k2⟩ | ⟨e2, k2⟩ | ⟨e2, k2⟩
      · rw [e2] at h2; simp at h2
      · subst k2
        rw [e1]; simp
      · have : cmpI z x = 1 := by
          rcases cmpI_cases z x with ⟨e3, k3⟩ | ⟨e3, k3⟩ | ⟨e3, k3⟩
          · omega
          · omega
          · exact e3
        rw [this]; simp
theorem cmpR_rev (r s : Rn) : cmpR s r = -cmpR r s := by
  unfold cmpR
  rw [cmpL_rev r.offs s.offs, cmpI_rev (r.step : Int) s.step]
  by_cases h : cmpL r.offs s.offs = 0
  · rw [if_pos h, if_pos (by omega)]
  · rw [if_neg h, if_neg (by omega)]
theorem cmpR_eq {r s : Rn} : cmpR r s = 0 ↔ r.offs = s.offs ∧ r.step = s.step := by
  unfold cmpR
  by_cases h : cmpL r.offs s.offs = 0
  · rw [if_pos h]
    have := cmpL_eq.1 h
    rcases cmpI_cases (r.step : Int) s.step with ⟨e, k⟩ | ⟨e, k⟩ | ⟨e, k⟩
    · rw [e]; simp; omega
    · rw [e]; simp [this]; omega
    · rw [e]; simp; omega
  · rw [if_neg h]
    constructor
    · intro h'; exact absurd h' h
    · rintro ⟨h1, -⟩; exact absurd (cmpL_eq.2 h1) h
theorem cmpR_trans {r s t : Rn} (h1 : 0 ≤ cmpR s r) (h2 : 0 ≤ cmpR t s) : 0 ≤ cmpR t r := by
  unfold cmpR at h1 h2 ⊢
  have key : 0 ≤ cmpL s.offs r.offs := by
    by_cases h : cmpL s.offs r.offs = 0
    · omega
    · rw [if_neg h] at h1; exact h1
  have key2 : 0 ≤ cmpL t.offs s.offs := by
    by_cases h : cmpL t.offs s.offs = 0
    · omega
    · rw [if_neg h] at h2; exact h2
  obtain ⟨k1, k2⟩ := cmpL_trans _ _ _ key key2
  by_cases h : cmpL t.offs r.offs = 0
  · obtain ⟨e1, e2⟩ := k2 h
    rw [if_pos e1] at h1
    rw [if_pos e2] at h2
    rw [if_pos h]
    rcases cmpI_cases (s.step : Int) r.step with ⟨a1, b1⟩ | ⟨a1, b1⟩ | ⟨a1, b1⟩ <;>
    rcases cmpI_cases (t.step : Int) s.step with ⟨a2, b2⟩ | ⟨a2, b2⟩ | ⟨a2, b2⟩ <;>
    rcases cmpI_cases (t.step : Int) r.step with ⟨a3, b3⟩ | ⟨a3, b3⟩ | ⟨a3, b3⟩ <;> omega
  · rw [if_neg h]
    exact k1
end En

def ltR (x y : RV) : Bool := decide (En.cmpR x.1 y.1 < 0)
theorem ltR_wk : Sm.Wk ltR := ⟨fun a => by
    unfold ltR
    rw [En.cmpR_eq.2 ⟨rfl, rfl⟩]
    rfl, fun a b c h1 h2 => by
    unfold ltR at h1 h2 ⊢
    simp at h1 h2 ⊢
    exact En.cmpR_trans h1 h2, fun a b h => by
    unfold ltR at h ⊢
    simp at h ⊢
    rw [En.cmpR_rev a.1 b.1]
    omega⟩

end Go.Proofs.YtfldcmdhneegmabGreatDoor

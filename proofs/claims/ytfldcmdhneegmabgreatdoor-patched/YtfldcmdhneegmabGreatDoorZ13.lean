import Derived.Test.YtfldcmdhneegmabGreatDoorSlA
import Derived.Test.YtfldcmdhneegmabGreatDoorZ12

/-
  What selected keeps by: age, lasts and the three literals.
-/
namespace Go.Proofs.YtfldcmdhneegmabGreatDoor
open Go.RowKit Go.Lib

theorem far_wrap (t first : Int) : IntKind.u64.wrap (IntKind.u64.wrap t - IntKind.u64.wrap first) = En.far t first := by
  simp [IntKind.wrap, IntKind.bits, IntKind.signed, En.far]
theorem wrap_win {x : Int} (h1 : 0 ≤ x) (h2 : x ≤ 9999) : IntKind.u64.wrap x = x := by
  simp [IntKind.wrap, IntKind.bits, IntKind.signed]
  omega

set_option maxHeartbeats 1000000 in
set_option maxRecDepth 1000000 in
theorem age_any (s first t : Int) (ao : Option Addr) (n c : Nat) (w : World) :
    Calls Tryz.prog 131 #[.agg #[.int .i64 s, .slice ao n c, .int .i64 first], .int .i64 t] w fun e w' => e = .returned (.int .u64 (En.far t first)) ∧ Below w.heap.size w w' := by
  go_enter Tryz.func131, Tryz.ntmps131
  go_wp2
  go_ret
  exact ⟨by rw [← far_wrap]; rfl, (Below.refl _ _).alloc (Nat.le_refl _) _⟩

set_option maxHeartbeats 1000000 in
set_option maxRecDepth 1000000 in
theorem inWindow1_any (s first t win : Int) (ao : Option Addr) (n c mb vb eb : Nat) (w : World) (hw0 : 0 ≤ win) (hw1 : win ≤ 9999)
    (hm : w.cell? ⟨mb, 0, none⟩ = some (.int .i64 t)) (hv : w.cell? ⟨vb, 0, none⟩ = some (.pointer (some ⟨eb, 0, none⟩))) (he : w.cell? ⟨eb, 1, none⟩ = some (.int .i64 win)) :
    Calls Tryz.prog 130 #[.agg #[.int .i64 s, .slice ao n c, .int .i64 first], .pointer (some ⟨mb, 0, none⟩), .pointer (some ⟨vb, 0, none⟩)] w fun e w' => e = .returned (.bool (decide (En.far t first ≤ win))) ∧ Below w.heap.size w w' := by
  have lm := World.block_lt_of_cell? w ⟨mb, 0, none⟩ hm
  have lv := World.block_lt_of_cell? w ⟨vb, 0, none⟩ hv
  have le := World.block_lt_of_cell? w ⟨eb, 1, none⟩ he
  simp only at lm lv le
  have hal := (Below.refl w.heap.size w).alloc (Nat.le_refl _) (.cells #[.int .i64 s, .slice ao n c, .int .i64 first] 86)
  have hnew : (w.alloc (.cells #[.int .i64 s, .slice ao n c, .int .i64 first] 86)).heap[w.heap.size]? = some (.cells #[.int .i64 s, .slice ao n c, .int .i64 first] 86 (0, 0)) := heap_alloc_new w _
  generalize hW : w.alloc (.cells #[.int .i64 s, .slice ao n c, .int .i64 first] 86) = W at hal hnew
  have m1 := (cell_bel hal ⟨mb, 0, none⟩ lm).trans hm
  have v1 := (cell_bel hal ⟨vb, 0, none⟩ lv).trans hv
  have e1 := (cell_bel hal ⟨eb, 1, none⟩ le).trans he
  have r0 : W.cell? ⟨w.heap.size, 0, none⟩ = some (.int .i64 s) := by simp [World.cell?, hnew]
  have r1 : W.cell? ⟨w.heap.size, 1, none⟩ = some (.slice ao n c) := by simp [World.cell?, hnew]
  have r2 : W.cell? ⟨w.heap.size, 2, none⟩ = some (.int .i64 first) := by simp [World.cell?, hnew]
  have hsz := lt_of_block hnew
  have HA := hid (fun W' => age_any s first t ao n c W')
  have HB := hid (And.intro hal hsz)
  have hww := wrap_win hw0 hw1
  have lm' : mb < W.heap.size := by have := hal.size; omega
  have lv' : vb < W.heap.size := by have := hal.size; omega
  have le' : eb < W.heap.size := by have := hal.size; omega
  clear hal hnew hm hv he
  go_enter Tryz.func130, Tryz.ntmps130
  go_wp2
  go_region_held3 (fun W => W.cell? ⟨w.heap.size, 0, none⟩ = some (.int .i64 s) ∧ W.cell? ⟨w.heap.size, 1, none⟩ = some (.slice ao n c) ∧ W.cell? ⟨w.heap.size, 2, none⟩ = some (.int .i64 first) ∧ W.cell? ⟨mb, 0, none⟩ = some (.int .i64 t) ∧ W.cell? ⟨vb, 0, none⟩ = some (.pointer (some ⟨eb, 0, none⟩)) ∧ W.cell? ⟨eb, 1, none⟩ = some (.int .i64 win)) (go_keep) ((go_at_call 131; refine (HA.out _).mono ?_; rintro e w1 ⟨rfl, hb1⟩; have z0 := (cell_bel hb1 ⟨w.heap.size, 0, none⟩ hsz).trans r0; have z1 := (cell_bel hb1 ⟨w.heap.size, 1, none⟩ hsz).trans r1; have z2 := (cell_bel hb1 ⟨w.heap.size, 2, none⟩ hsz).trans r2; have z3 := (cell_bel hb1 ⟨mb, 0, none⟩ lm').trans m1; have z4 := (cell_bel hb1 ⟨vb, 0, none⟩ lv').trans v1; have z5 := (cell_bel hb1 ⟨eb, 1, none⟩ le').trans e1; have H1 := hid hb1; clear hb1))
  have HB1 : Hid (Below W.heap.size W w1) := hid (by first | exact H1.out | exact (bel_drewN (Below.refl _ _) _).trans H1.out | exact (Below.drew (Below.refl _ _)).trans H1.out)
  go_wp2
  go_ret
  exact ⟨rfl, HB.out.1.trans (HB1.out.mono HB.out.1.size)⟩

/-- An event above the watermark could go on with the run. -/
def lastsP (win t : Int) (r : En.Rn) : Bool := decide (En.far t r.first < win)

set_option maxHeartbeats 1000000 in
set_option maxRecDepth 1000000 in
theorem lasts_any (s first t win : Int) (ao : Option Addr) (n c eb : Nat) (w : World) (hw0 : 0 ≤ win) (hw1 : win ≤ 9999) (he : w.cell? ⟨eb, 1, none⟩ = some (.int .i64 win)) :
    Calls Tryz.prog 145 #[.pointer (some ⟨eb, 0, none⟩), .agg #[.int .i64 s, .slice ao n c, .int .i64 first], .int .i64 t] w fun e w' => e = .returned (.bool (decide (En.far t first < win))) ∧ Below w.heap.size w w' := by
  have le := World.block_lt_of_cell? w ⟨eb, 1, none⟩ he
  simp only at le
  have hal := (Below.refl w.heap.size w).alloc (Nat.le_refl _) (.cells #[.int .i64 s, .slice ao n c, .int .i64 first] 86)
  have hnew : (w.alloc (.cells #[.int .i64 s, .slice ao n c, .int .i64 first] 86)).heap[w.heap.size]? = some (.cells #[.int .i64 s, .slice ao n c, .int .i64 first] 86 (0, 0)) := heap_alloc_new w _
  generalize hW : w.alloc (.cells #[.int .i64 s, .slice ao n c, .int .i64 first] 86) = W at hal hnew
  have e1 := (cell_bel hal ⟨eb, 1, none⟩ le).trans he
  have r0 : W.cell? ⟨w.heap.size, 0, none⟩ = some (.int .i64 s) := by simp [World.cell?, hnew]
  have r1 : W.cell? ⟨w.heap.size, 1, none⟩ = some (.slice ao n c) := by simp [World.cell?, hnew]
  have r2 : W.cell? ⟨w.heap.size, 2, none⟩ = some (.int .i64 first) := by simp [World.cell?, hnew]
  have hsz := lt_of_block hnew
  have HA := hid (fun W' => age_any s first t ao n c W')
  have HB := hid (And.intro hal hsz)
  have hww := wrap_win hw0 hw1
  have le' : eb < W.heap.size := by have := hal.size; omega
  clear hal hnew he
  go_enter Tryz.func145, Tryz.ntmps145
  go_wp2
  go_region_held3 (fun W => W.cell? ⟨w.heap.size, 0, none⟩ = some (.int .i64 s) ∧ W.cell? ⟨w.heap.size, 1, none⟩ = some (.slice ao n c) ∧ W.cell? ⟨w.heap.size, 2, none⟩ = some (.int .i64 first) ∧ W.cell? ⟨eb, 1, none⟩ = some (.int .i64 win)) (go_keep) ((go_at_call 131; refine (HA.out _).mono ?_; rintro e w1 ⟨rfl, hb1⟩; have z0 := (cell_bel hb1 ⟨w.heap.size, 0, none⟩ hsz).trans r0; have z1 := (cell_bel hb1 ⟨w.heap.size, 1, none⟩ hsz).trans r1; have z2 := (cell_bel hb1 ⟨w.heap.size, 2, none⟩ hsz).trans r2; have z3 := (cell_bel hb1 ⟨eb, 1, none⟩ le').trans e1; have H1 := hid hb1; clear hb1))
  have HB1 : Hid (Below W.heap.size W w1) := hid (by first | exact H1.out | exact (bel_drewN (Below.refl _ _) _).trans H1.out | exact (Below.drew (Below.refl _ _)).trans H1.out)
  go_wp2
  go_ret
  exact ⟨rfl, HB.out.1.trans (HB1.out.mono HB.out.1.size)⟩

set_option maxHeartbeats 1000000 in
set_option maxRecDepth 1000000 in
theorem lasting1_any (s first t win : Int) (ao : Option Addr) (n c mb vb eb : Nat) (w : World) (hw0 : 0 ≤ win) (hw1 : win ≤ 9999)
    (hv : w.cell? ⟨vb, 0, none⟩ = some (.pointer (some ⟨eb, 0, none⟩))) (hm : w.cell? ⟨mb, 0, none⟩ = some (.int .i64 t)) (he : w.cell? ⟨eb, 1, none⟩ = some (.int .i64 win)) :
    Calls Tryz.prog 144 #[.agg #[.int .i64 s, .slice ao n c, .int .i64 first], .pointer (some ⟨vb, 0, none⟩), .pointer (some ⟨mb, 0, none⟩)] w fun e w' => e = .returned (.bool (decide (En.far t first < win))) ∧ Below w.heap.size w w' := by
  have lm := World.block_lt_of_cell? w ⟨mb, 0, none⟩ hm
  have lv := World.block_lt_of_cell? w ⟨vb, 0, none⟩ hv
  have le := World.block_lt_of_cell? w ⟨eb, 1, none⟩ he
  simp only at lm lv le
  have hal := (Below.refl w.heap.size w).alloc (Nat.le_refl _) (.cells #[.int .i64 s, .slice ao n c, .int .i64 first] 86)
  have hnew : (w.alloc (.cells #[.int .i64 s, .slice ao n c, .int .i64 first] 86)).heap[w.heap.size]? = some (.cells #[.int .i64 s, .slice ao n c, .int .i64 first] 86 (0, 0)) := heap_alloc_new w _
  generalize hW : w.alloc (.cells #[.int .i64 s, .slice ao n c, .int .i64 first] 86) = W at hal hnew
  have m1 := (cell_bel hal ⟨mb, 0, none⟩ lm).trans hm
  have v1 := (cell_bel hal ⟨vb, 0, none⟩ lv).trans hv
  have e1 := (cell_bel hal ⟨eb, 1, none⟩ le).trans he
  have r0 : W.cell? ⟨w.heap.size, 0, none⟩ = some (.int .i64 s) := by simp [World.cell?, hnew]
  have r1 : W.cell? ⟨w.heap.size, 1, none⟩ = some (.slice ao n c) := by simp [World.cell?, hnew]
  have r2 : W.cell? ⟨w.heap.size, 2, none⟩ = some (.int .i64 first) := by simp [World.cell?, hnew]
  have HA := hid (lasts_any s first t win ao n c eb W hw0 hw1 e1)
  have HB := hid hal
  clear hal hnew hm hv he
  go_enter Tryz.func144, Tryz.ntmps144
  go_wp2_with (go_at_call 145; refine HA.out.mono ?_; rintro e w1 ⟨rfl, hb1⟩; have H1 := hid hb1; clear hb1)
  go_ret
  exact ⟨rfl, HB.out.trans (H1.out.mono HB.out.size)⟩

set_option maxHeartbeats 1000000 in
set_option maxRecDepth 1000000 in
theorem ableToGoOn1_any (F : Nat → Prop) (l : List (Int × Bool)) (s : Nat) (first win : Int) (vs : Value) (ao : Option Addr) (n c vb eb : Nat) (w : World) (hS : StepsAt F w vs l) (hl : l.length ≤ 1000) (hs : s < l.length)
    (hv : w.cell? ⟨vb, 0, none⟩ = some (.pointer (some ⟨eb, 0, none⟩))) (he0 : w.cell? ⟨eb, 0, none⟩ = some vs) (he : w.cell? ⟨eb, 1, none⟩ = some (.int .i64 win)) :
    Calls Tryz.prog 140 #[.agg #[.int .i64 s, .slice ao n c, .int .i64 first], .pointer (some ⟨vb, 0, none⟩)] w fun e w' => e = .returned (.bool (goesOn l s)) ∧ Below w.heap.size w w' := by
  have lv := World.block_lt_of_cell? w ⟨vb, 0, none⟩ hv
  have le := World.block_lt_of_cell? w ⟨eb, 1, none⟩ he
  simp only at lv le
  have hal := (Below.refl w.heap.size w).alloc (Nat.le_refl _) (.cells #[.int .i64 s, .slice ao n c, .int .i64 first] 86)
  have hnew : (w.alloc (.cells #[.int .i64 s, .slice ao n c, .int .i64 first] 86)).heap[w.heap.size]? = some (.cells #[.int .i64 s, .slice ao n c, .int .i64 first] 86 (0, 0)) := heap_alloc_new w _
  generalize hW : w.alloc (.cells #[.int .i64 s, .slice ao n c, .int .i64 first] 86) = W at hal hnew
  have v1 := (cell_bel hal ⟨vb, 0, none⟩ lv).trans hv
  have e0 := (cell_bel hal ⟨eb, 0, none⟩ le).trans he0
  have e1 := (cell_bel hal ⟨eb, 1, none⟩ le).trans he
  have r0 : W.cell? ⟨w.heap.size, 0, none⟩ = some (.int .i64 s) := by simp [World.cell?, hnew]
  have HA := hid (fun W' (hW' : Below W.heap.size W W') => pGoesOn_any F vs l win s W' ((hS.below hal).below hW') hl hs)
  have hsz := lt_of_block hnew
  have lv' : vb < W.heap.size := by have := hal.size; omega
  have le' : eb < W.heap.size := by have := hal.size; omega
  obtain ⟨ap, cp, rfl, -, -⟩ := RowAt.slice hS
  have HB := hid hal
  clear hal hnew hv he he0 hS
  go_enter Tryz.func140, Tryz.ntmps140
  go_wp2
  go_region_held3 (fun W => W.cell? ⟨w.heap.size, 0, none⟩ = some (.int .i64 s) ∧ W.cell? ⟨vb, 0, none⟩ = some (.pointer (some ⟨eb, 0, none⟩)) ∧ W.cell? ⟨eb, 0, none⟩ = some (.slice ap l.length cp) ∧ W.cell? ⟨eb, 1, none⟩ = some (.int .i64 win)) (go_keep) ((go_at_call 141; refine (HA.out _ (by first | exact bel_drewN (Below.refl _ _) _ | exact Below.drew (Below.refl _ _) | exact Below.refl _ _)).mono ?_; rintro e w1 ⟨rfl, hb1⟩; have z0 := (cell_bel hb1 ⟨w.heap.size, 0, none⟩ hsz).trans r0; have z1 := (cell_bel hb1 ⟨vb, 0, none⟩ lv').trans v1; have z2 := (cell_bel hb1 ⟨eb, 0, none⟩ le').trans e0; have z3 := (cell_bel hb1 ⟨eb, 1, none⟩ le').trans e1; have H1 := hid hb1; clear hb1))
  have HB1 : Hid (Below W.heap.size W w1) := hid (by first | exact H1.out | exact (bel_drewN (Below.refl _ _) _).trans H1.out | exact (Below.drew (Below.refl _ _)).trans H1.out)
  go_wp2
  go_ret
  exact ⟨rfl, HB.out.trans (HB1.out.mono HB.out.size)⟩

end Go.Proofs.YtfldcmdhneegmabGreatDoor

/-
  inWindow, ableToGoOn, lasting.
-/
namespace Go.Proofs.YtfldcmdhneegmabGreatDoor
open Go.RowKit Go.Lib

theorem SelEnd.up {p : En.Rn → Bool} {l : List RV} {w w1 : World} {e : Ending} {w' : World} (h : SelEnd p l w1 e w') (hb : Below w.heap.size w w1) : SelEnd p l w e w' := by
  obtain ⟨v', h1, h2, h3⟩ := h
  exact ⟨v', h1, own_mono h2 hb.size, hb.trans (h3.mono hb.size)⟩
theorem one_of {w : World} {N : Nat} {x : Value} {t : TypeId} (h : w.heap[N]? = some (.cells #[x] t (0, 0))) : w.cell? ⟨N, 0, none⟩ = some x := by simp [World.cell?, h]
theorem rval_eq {F : Nat → Prop} {w : World} {x : RV} (h : IntsAt F w x.2 x.1.offs) : ∃ a n c, rval x = .agg #[.int .i64 x.1.step, .slice a n c, .int .i64 x.1.first] := by
  obtain ⟨a, c, e, -⟩ := RowAt.slice h
  exact ⟨a, _, c, by unfold rval; rw [e]⟩

def inWinP (win t : Int) (r : En.Rn) : Bool := decide (En.far t r.first ≤ win)

/-- Two new blocks. -/
theorem two_new (w : World) (x y : Value) (t u : TypeId) : Below w.heap.size w ((w.alloc (.cells #[x] t)).alloc (.cells #[y] u)) ∧ ((w.alloc (.cells #[x] t)).alloc (.cells #[y] u)).cell? ⟨w.heap.size, 0, none⟩ = some x ∧ ((w.alloc (.cells #[x] t)).alloc (.cells #[y] u)).cell? ⟨w.heap.size + 1, 0, none⟩ = some y :=
  ⟨((Below.refl _ _).alloc (Nat.le_refl _) _).alloc (by simp) _, one_of ((Below.heap_alloc _ _ _ (by simp)).trans (heap_alloc_new w _)), one_of (new_at (by simp))⟩

set_option maxHeartbeats 1000000 in
set_option maxRecDepth 1000000 in
theorem inWindow_any (F : Nat → Prop) (vl : Value) (l : List RV) (eb : Nat) (t win : Int) (w : World) (hl : RunsAt F w vl l) (hn : l.length ≤ 1000000) (hw0 : 0 ≤ win) (hw1 : win ≤ 9999) (he : w.cell? ⟨eb, 1, none⟩ = some (.int .i64 win)) :
    Calls Tryz.prog 63 #[.pointer (some ⟨eb, 0, none⟩), vl, .int .i64 t] w (SelEnd (inWinP win t) l w) := by
  have le := World.block_lt_of_cell? w ⟨eb, 1, none⟩ he
  simp only at le
  obtain ⟨ao, cap, rfl, -, -⟩ := hl.slice
  have hmf : ∀ (fn : Fn) (first cap : Array Value) (w : World), (Instr.makeFunc fn first cap).run Tryz.prog w = .ok (.func fn first cap) w := fun _ _ _ _ => rfl
  obtain ⟨h1, h2, h3⟩ := two_new w (.pointer (some ⟨eb, 0, none⟩)) (.int .i64 t) 51 2
  generalize hW : (w.alloc (.cells #[.pointer (some ⟨eb, 0, none⟩)] 51)).alloc (.cells #[.int .i64 t] 2) = W at h1 h2 h3
  have he' := (cell_bel h1 ⟨eb, 1, none⟩ le).trans he
  have HC := hid ((selected_any F (inWinP win t) (.slice ao l.length cap) l 130 #[.pointer (some ⟨w.heap.size + 1, 0, none⟩), .pointer (some ⟨w.heap.size, 0, none⟩)] W (enters_of Tryz.func130 (by kernel_rfl) rfl) (hl.below h1) hn (fun x hx W' hW' => by
    obtain ⟨a, n, c, e⟩ := rval_eq (hl.offs x hx)
    rw [e]
    exact inWindow1_any x.1.step x.1.first t win a n c (w.heap.size + 1) w.heap.size eb W' hw0 hw1 ((cell_bel hW' _ (World.block_lt_of_cell? W _ h3)).trans h3) ((cell_bel hW' _ (World.block_lt_of_cell? W _ h2)).trans h2) ((cell_bel hW' _ (World.block_lt_of_cell? W _ he')).trans he'))).mono (fun e w' h => h.up h1))
  clear hl he h1 h2 h3 he'
  go_enter Tryz.func63, Tryz.ntmps63
  go_wp2_with (go_at_call 129; refine HC.out.mono ?_; rintro e w1 ⟨v', rfl, hr1⟩; have H1 := hid hr1; clear hr1)
  go_ret
  exact ⟨_, rfl, H1.out⟩

set_option maxHeartbeats 1000000 in
set_option maxRecDepth 1000000 in
theorem lasting_any (F : Nat → Prop) (vl : Value) (l : List RV) (eb : Nat) (t win : Int) (w : World) (hl : RunsAt F w vl l) (hn : l.length ≤ 1000000) (hw0 : 0 ≤ win) (hw1 : win ≤ 9999) (he : w.cell? ⟨eb, 1, none⟩ = some (.int .i64 win)) :
    Calls Tryz.prog 69 #[.pointer (some ⟨eb, 0, none⟩), vl, .int .i64 t] w (SelEnd (lastsP win t) l w) := by
  have le := World.block_lt_of_cell? w ⟨eb, 1, none⟩ he
  simp only at le
  obtain ⟨ao, cap, rfl, -, -⟩ := hl.slice
  have hmf : ∀ (fn : Fn) (first cap : Array Value) (w : World), (Instr.makeFunc fn first cap).run Tryz.prog w = .ok (.func fn first cap) w := fun _ _ _ _ => rfl
  obtain ⟨h1, h2, h3⟩ := two_new w (.pointer (some ⟨eb, 0, none⟩)) (.int .i64 t) 51 2
  generalize hW : (w.alloc (.cells #[.pointer (some ⟨eb, 0, none⟩)] 51)).alloc (.cells #[.int .i64 t] 2) = W at h1 h2 h3
  have he' := (cell_bel h1 ⟨eb, 1, none⟩ le).trans he
  have HC := hid ((selected_any F (lastsP win t) (.slice ao l.length cap) l 144 #[.pointer (some ⟨w.heap.size, 0, none⟩), .pointer (some ⟨w.heap.size + 1, 0, none⟩)] W (enters_of Tryz.func144 (by kernel_rfl) rfl) (hl.below h1) hn (fun x hx W' hW' => by
    obtain ⟨a, n, c, e⟩ := rval_eq (hl.offs x hx)
    rw [e]
    exact lasting1_any x.1.step x.1.first t win a n c (w.heap.size + 1) w.heap.size eb W' hw0 hw1 ((cell_bel hW' _ (World.block_lt_of_cell? W _ h2)).trans h2) ((cell_bel hW' _ (World.block_lt_of_cell? W _ h3)).trans h3) ((cell_bel hW' _ (World.block_lt_of_cell? W _ he')).trans he'))).mono (fun e w' h => h.up h1))
  clear hl he h1 h2 h3 he'
  go_enter Tryz.func69, Tryz.ntmps69
  go_wp2_with (go_at_call 129; refine HC.out.mono ?_; rintro e w1 ⟨v', rfl, hr1⟩; have H1 := hid hr1; clear hr1)
  go_ret
  exact ⟨_, rfl, H1.out⟩

set_option maxHeartbeats 1000000 in
set_option maxRecDepth 1000000 in
theorem ableToGoOn_any (F G : Nat → Prop) (vl : Value) (l : List RV) (eb : Nat) (win : Int) (vs : Value) (st : List (Int × Bool)) (w : World) (hl : RunsAt F w vl l) (hn : l.length ≤ 1000000) (hS : StepsAt G w vs st) (hsl : st.length ≤ 1000) (hst : ∀ x ∈ l, x.1.step < st.length)
    (he0 : w.cell? ⟨eb, 0, none⟩ = some vs) (he : w.cell? ⟨eb, 1, none⟩ = some (.int .i64 win)) :
    Calls Tryz.prog 67 #[.pointer (some ⟨eb, 0, none⟩), vl] w (SelEnd (fun r => goesOn st r.step) l w) := by
  have le := World.block_lt_of_cell? w ⟨eb, 1, none⟩ he
  simp only at le
  obtain ⟨ao, cap, rfl, -, -⟩ := hl.slice
  have hmf : ∀ (fn : Fn) (first cap : Array Value) (w : World), (Instr.makeFunc fn first cap).run Tryz.prog w = .ok (.func fn first cap) w := fun _ _ _ _ => rfl
  have h1 := (Below.refl w.heap.size w).alloc (Nat.le_refl _) (.cells #[.pointer (some ⟨eb, 0, none⟩)] 51)
  have h2 : (w.alloc (.cells #[.pointer (some ⟨eb, 0, none⟩)] 51)).cell? ⟨w.heap.size, 0, none⟩ = some (.pointer (some ⟨eb, 0, none⟩)) := one_of (heap_alloc_new w _)
  generalize hW : w.alloc (.cells #[.pointer (some ⟨eb, 0, none⟩)] 51) = W at h1 h2
  have he' := (cell_bel h1 ⟨eb, 1, none⟩ le).trans he
  have he0' := (cell_bel h1 ⟨eb, 0, none⟩ le).trans he0
  have HC := hid ((selected_any F (fun r => goesOn st r.step) (.slice ao l.length cap) l 140 #[.pointer (some ⟨w.heap.size, 0, none⟩)] W (enters_of Tryz.func140 (by kernel_rfl) rfl) (hl.below h1) hn (fun x hx W' hW' => by
    obtain ⟨a, n, c, e⟩ := rval_eq (hl.offs x hx)
    rw [e]
    exact ableToGoOn1_any G st x.1.step x.1.first win vs a n c w.heap.size eb W' ((hS.below h1).below hW') hsl (hst x hx) ((cell_bel hW' _ (World.block_lt_of_cell? W _ h2)).trans h2) ((cell_bel hW' _ (World.block_lt_of_cell? W _ he0')).trans he0') ((cell_bel hW' _ (World.block_lt_of_cell? W _ he')).trans he'))).mono (fun e w' h => h.up h1))
  clear hl he h1 h2 he' he0 he0' hS hst
  go_enter Tryz.func67, Tryz.ntmps67
  go_wp2_with (go_at_call 129; refine HC.out.mono ?_; rintro e w1 ⟨v', rfl, hr1⟩; have H1 := hid hr1; clear hr1)
  go_ret
  exact ⟨_, rfl, H1.out⟩

end Go.Proofs.YtfldcmdhneegmabGreatDoor

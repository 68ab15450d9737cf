import Derived.Test.YtfldcmdhneegmaaGreatDoorSrJ
import Derived.Shelf.Abstract
import Derived.Test.YtfldcmdhneegmaaGreatDoorZ12

/-
  selected: the runs that a function keeps, in a new list.
-/
namespace Go.Proofs.YtfldcmdhneegmaaGreatDoor
open Go.RowKit Go.Lib

theorem Tryz.infoPRun : (Tryz.prog.info? 164).map (fun i => (i.zero, i.size, i.bytes)) = some (some (.agg #[.int .i64 0, .slice none 0 0, .int .i64 0]), 3, 40) := by kernel_rfl

/-- What the loop of selected carries. -/
structure SelRel (p : En.Rn → Bool) (l : List RV) (k : Nat) (w wr : World) (v : Value) (M : List RV) : Prop where
  own : wr.ownsRow w.heap.size 164 3 v M.length (runCells M)
  eq : M = (l.take k).filter fun x => p x.1
  bel : Below w.heap.size w wr
theorem SelRel.len {p : En.Rn → Bool} {l : List RV} {k : Nat} {w wr : World} {v : Value} {M : List RV} (h : SelRel p l k w wr v M) : M.length ≤ l.length := by
  rw [h.eq]
  refine Nat.le_trans (List.length_filter_le _ _) ?_
  rw [List.length_take]
  omega
theorem SelRel.skip {p : En.Rn → Bool} {l : List RV} {k : Nat} {w wr w2 : World} {v : Value} {M : List RV} (h : SelRel p l k w wr v M) (hk : k < l.length) (hp : p l[k].1 = false) (hb : Below wr.heap.size wr w2) : SelRel p l (k + 1) w w2 v M :=
  ⟨own_below h.own hb, by rw [h.eq, List.take_succ_eq_append_getElem hk, List.filter_append]; simp [hp], h.bel.trans (hb.mono h.bel.size)⟩
theorem SelRel.more {p : En.Rn → Bool} {l : List RV} {k : Nat} {w wr w2 w5 : World} {v v5 : Value} {M : List RV} {o : Obj} (h : SelRel p l k w wr v M) (hk : k < l.length) (hp : p l[k].1 = true) (hb : Below wr.heap.size wr w2)
    (own5 : w5.ownsRow w.heap.size 164 3 v5 (M.length + 1) (runCells M ++ [.int .i64 l[k].1.step, l[k].2, .int .i64 l[k].1.first])) (gr5 : (w2.alloc o).grownBy w5 v.ownBlock) : SelRel p l (k + 1) w w5 v5 (M ++ [l[k]]) := by
  have hB := h.bel.trans (hb.mono h.bel.size)
  refine ⟨by simpa [runCells] using own5, by rw [h.eq, List.take_succ_eq_append_getElem hk, List.filter_append]; simp [hp], (hB.alloc hB.size o).grown gr5 (Nat.le_trans hB.size (by simp)) (fun k hk => (own_block h.own k hk).1)⟩

/-- What selected leaves. -/
def SelEnd (p : En.Rn → Bool) (l : List RV) (w : World) (e : Ending) (w' : World) : Prop :=
  ∃ v', e = .returned v' ∧ w'.ownsRow w.heap.size 164 3 v' (l.filter fun x => p x.1).length (runCells (l.filter fun x => p x.1)) ∧ Below w.heap.size w w'

set_option maxHeartbeats 4000000 in
set_option maxRecDepth 1000000 in
theorem selected_any (F : Nat → Prop) (p : En.Rn → Bool) (vl : Value) (l : List RV) (g : Nat) (cb : Array Value) (w : World) (eg : ∀ args w, (callFunc g args).run Tryz.prog w = .ok (.enter g args) w) (hl : RunsAt F w vl l) (hn : l.length ≤ 1000000)
    (hk : ∀ x ∈ l, ∀ W, Below w.heap.size w W → Calls Tryz.prog g (#[rval x] ++ cb) W fun e w' => e = .returned (.bool (p x.1)) ∧ Below W.heap.size W w') :
    Calls Tryz.prog 166 #[vl, .func (.func g) #[] cb] w (SelEnd p l w) := by
  obtain ⟨ao, cap, rfl, hc1, hc2⟩ := hl.slice
  have HL := hid hl
  have HK := hid hk
  clear hl hk
  go_enter Tryz.func166, Tryz.ntmps166
  go_wp2
  go_loopw [5, 10] (fun o i wr => ∃ (k : Nat) (v : Value) (M : List RV), k ≤ l.length ∧ i = .int .i64 k ∧ o = v ∧ Hid (SelRel p l k w wr v M)) (fun _ i _ => l.length - (intOf i).toNat)
  case atStart => exact ⟨0, _, [], by omega, rfl, rfl, World.ownsRow_nil _ _ _ _, by simp, Below.refl _ _⟩
  case round =>
    obtain ⟨k, v, M, hk, rfl, rfl, hr⟩ := hrel
    obtain ⟨av, cv, rfl⟩ := own_slice hr.out.own
    by_cases hlt : k < l.length
    · obtain ⟨b1, o1, rfl, hb1, c0, c1, c2⟩ := (HL.out.below hr.out.bel).get hlt
      have hk' : (k : Int) < (l.length : Int) := by omega
      have hmem : l[k] ∈ l := List.getElem_mem hlt
      obtain ⟨ak, nk, ck, hvk⟩ : ∃ a n c, l[k].2 = .slice a n c := by
        obtain ⟨a, c, h, -⟩ := RowAt.slice (HL.out.offs _ hmem)
        exact ⟨a, _, c, h⟩
      have HC : Hid (∀ W, Below w.heap.size w W → Calls Tryz.prog g (#[.agg #[.int .i64 l[k].1.step, .slice ak nk ck, .int .i64 l[k].1.first]] ++ cb) W fun e w' => e = .returned (.bool (p l[k].1)) ∧ Below W.heap.size W w') := hid (fun W hW => by
        have := HK.out _ hmem W hW
        unfold rval at this
        rw [hvk] at this
        exact this)
      rw [hvk] at c1
      have HX := hid (And.intro hvk hlt)
      obtain ⟨x, hx⟩ : ∃ x, l[k] = x := ⟨_, rfl⟩
      rw [hx] at c0 c2 HC
      have HXX := hid hx
      clear hx hvk hmem
      by_cases hp : p x.1 = true
      · rw [hp] at HC
        have HP := hid hp
        clear hp
        go_wp2
        have hal := (Below.refl wr.heap.size wr).alloc (Nat.le_refl _) (.cells #[.int .i64 x.1.step, .slice ak nk ck, .int .i64 x.1.first] 164)
        have ha : (wr.alloc (.cells #[.int .i64 x.1.step, .slice ak nk ck, .int .i64 x.1.first] 164)).heap[wr.heap.size]? = some (.cells #[.int .i64 x.1.step, .slice ak nk ck, .int .i64 x.1.first] 164 (0, 0)) := heap_alloc_new wr _
        refine (HC.out _ (hr.out.bel.alloc hr.out.bel.size _)).mono ?_
        rintro e w1 ⟨rfl, hb1⟩
        have hw1 := (hb1.block _ (lt_of_block ha)).trans ha
        have y0 : w1.cell? ⟨wr.heap.size, 0, none⟩ = some (.int .i64 x.1.step) := by simp [World.cell?, hw1]
        have y1 : w1.cell? ⟨wr.heap.size, 1, none⟩ = some (.slice ak nk ck) := by simp [World.cell?, hw1]
        have y2 : w1.cell? ⟨wr.heap.size, 2, none⟩ = some (.int .i64 x.1.first) := by simp [World.cell?, hw1]
        have H1 := hid (hal.trans (hb1.mono hal.size))
        clear hb1 hw1 ha hal c0 c1 c2
        obtain ⟨i0, hi0, hz0, hz1, hz2⟩ := info_parts Tryz.infoPRun
        have hMl := hr.out.len
        go_wp2_with (at_builtin; refine wpList_append_row rfl _ _ 157 rfl w.heap.size 164 i0 (.agg #[.int .i64 0, .slice none 0 0, .int .i64 0]) 3 40 Tryz.underlying157 hi0 hz0 hz1 hz2 rfl (by decide) _ _ _ rfl ((own_below hr.out.own H1.out).alloc _) (fun _ => True) _ 1 [.int .i64 x.1.step, .slice ak nk ck, .int .i64 x.1.first] rfl (three_row (heap_alloc_new _ _)) (by intro u hu; simp at hu; rcases hu with rfl | rfl | rfl <;> rfl) (by unfold maxLen; omega) (by omega) (Nat.le_trans hr.out.bel.size (Nat.le_trans H1.out.size (by simp))) ?_)
        intro v5 w5 own5 gr5
        have HN := hid (hr.out.more hlt (by rw [HXX.out]; exact HP.out) H1.out (by rw [HX.out.1, HXX.out]; exact own5) gr5)
        clear own5 gr5
        go_wp2
        go_roundw
        case rel => exact ⟨k + 1, _, _, by omega, by go_num, rfl, HN⟩
        case measure => simp [intOf]; omega
      · have hp' : p x.1 = false := by simpa using hp
        rw [hp'] at HC
        have HP := hid hp'
        clear hp hp'
        go_wp2
        have hal := (Below.refl wr.heap.size wr).alloc (Nat.le_refl _) (.cells #[.int .i64 x.1.step, .slice ak nk ck, .int .i64 x.1.first] 164)
        refine (HC.out _ (hr.out.bel.alloc hr.out.bel.size _)).mono ?_
        rintro e w1 ⟨rfl, hb1⟩
        have H1 := hid (hal.trans (hb1.mono hal.size))
        clear hb1 hal c0 c1 c2
        go_wp2
        go_roundw
        case rel => exact ⟨k + 1, _, _, by omega, by go_num, rfl, hr.out.skip hlt (by rw [HXX.out]; exact HP.out) H1.out⟩
        case measure => simp [intOf]; omega
    · have hk' : decide ((k : Int) < (l.length : Int)) = false := decide_eq_false (by omega)
      go_wp2
      go_ret
      have hq := hr.out.eq
      rw [List.take_of_length_le (by omega)] at hq
      exact ⟨_, rfl, by rw [← hq]; exact hr.out.own, hr.out.bel⟩

end Go.Proofs.YtfldcmdhneegmaaGreatDoor

/-
  What selected keeps by: age, lasts and the three literals.
-/
namespace Go.Proofs.YtfldcmdhneegmaaGreatDoor
open Go.RowKit Go.Lib

theorem far_wrap (t first : Int) : IntKind.u64.wrap (IntKind.u64.wrap t - IntKind.u64.wrap first) = En.far t first := by
  simp [IntKind.wrap, IntKind.bits, IntKind.signed, En.far]
theorem wrap_win {x : Int} (h1 : 0 ≤ x) (h2 : x ≤ 9999) : IntKind.u64.wrap x = x := by
  simp [IntKind.wrap, IntKind.bits, IntKind.signed]
  omega

set_option maxHeartbeats 1000000 in
set_option maxRecDepth 1000000 in
theorem age_any (s first t : Int) (ao : Option Addr) (n c : Nat) (w : World) :
    Calls Tryz.prog 168 #[.agg #[.int .i64 s, .slice ao n c, .int .i64 first], .int .i64 t] w fun e w' => e = .returned (.int .u64 (En.far t first)) ∧ Below w.heap.size w w' := by
  go_enter Tryz.func168, Tryz.ntmps168
  go_wp2
  go_ret
  exact ⟨by rw [← far_wrap]; rfl, (Below.refl _ _).alloc (Nat.le_refl _) _⟩

set_option maxHeartbeats 1000000 in
set_option maxRecDepth 1000000 in
theorem inWindow1_any (s first t win : Int) (ao : Option Addr) (n c mb vb eb : Nat) (w : World) (hw0 : 0 ≤ win) (hw1 : win ≤ 9999)
    (hm : w.cell? ⟨mb, 0, none⟩ = some (.int .i64 t)) (hv : w.cell? ⟨vb, 0, none⟩ = some (.pointer (some ⟨eb, 0, none⟩))) (he : w.cell? ⟨eb, 1, none⟩ = some (.int .i64 win)) :
    Calls Tryz.prog 167 #[.agg #[.int .i64 s, .slice ao n c, .int .i64 first], .pointer (some ⟨mb, 0, none⟩), .pointer (some ⟨vb, 0, none⟩)] w fun e w' => e = .returned (.bool (decide (En.far t first ≤ win))) ∧ Below w.heap.size w w' := by
  have lm := World.block_lt_of_cell? w ⟨mb, 0, none⟩ hm
  have lv := World.block_lt_of_cell? w ⟨vb, 0, none⟩ hv
  have le := World.block_lt_of_cell? w ⟨eb, 1, none⟩ he
  simp only at lm lv le
  have hal := (Below.refl w.heap.size w).alloc (Nat.le_refl _) (.cells #[.int .i64 s, .slice ao n c, .int .i64 first] 164)
  have hnew : (w.alloc (.cells #[.int .i64 s, .slice ao n c, .int .i64 first] 164)).heap[w.heap.size]? = some (.cells #[.int .i64 s, .slice ao n c, .int .i64 first] 164 (0, 0)) := heap_alloc_new w _
  generalize hW : w.alloc (.cells #[.int .i64 s, .slice ao n c, .int .i64 first] 164) = W at hal hnew
  have m1 := (cell_bel hal ⟨mb, 0, none⟩ lm).trans hm
  have v1 := (cell_bel hal ⟨vb, 0, none⟩ lv).trans hv
  have e1 := (cell_bel hal ⟨eb, 1, none⟩ le).trans he
  have r0 : W.cell? ⟨w.heap.size, 0, none⟩ = some (.int .i64 s) := by simp [World.cell?, hnew]
  have r1 : W.cell? ⟨w.heap.size, 1, none⟩ = some (.slice ao n c) := by simp [World.cell?, hnew]
  have r2 : W.cell? ⟨w.heap.size, 2, none⟩ = some (.int .i64 first) := by simp [World.cell?, hnew]
  have hsz := lt_of_block hnew
  have HA := hid (fun W' => age_any s first t ao n c W')
  have HB := hid (And.intro hal hsz)
  have hww := wrap_win hw0 hw1
  have lm' : mb < W.heap.size := by have := hal.size; omega
  have lv' : vb < W.heap.size := by have := hal.size; omega
  have le' : eb < W.heap.size := by have := hal.size; omega
  clear hal hnew hm hv he
  go_enter Tryz.func167, Tryz.ntmps167
  go_wp2
  go_region_held3 (fun W => W.cell? ⟨w.heap.size, 0, none⟩ = some (.int .i64 s) ∧ W.cell? ⟨w.heap.size, 1, none⟩ = some (.slice ao n c) ∧ W.cell? ⟨w.heap.size, 2, none⟩ = some (.int .i64 first) ∧ W.cell? ⟨mb, 0, none⟩ = some (.int .i64 t) ∧ W.cell? ⟨vb, 0, none⟩ = some (.pointer (some ⟨eb, 0, none⟩)) ∧ W.cell? ⟨eb, 1, none⟩ = some (.int .i64 win)) (go_keep) ((go_at_call 168; refine (HA.out _).mono ?_; rintro e w1 ⟨rfl, hb1⟩; have z0 := (cell_bel hb1 ⟨w.heap.size, 0, none⟩ hsz).trans r0; have z1 := (cell_bel hb1 ⟨w.heap.size, 1, none⟩ hsz).trans r1; have z2 := (cell_bel hb1 ⟨w.heap.size, 2, none⟩ hsz).trans r2; have z3 := (cell_bel hb1 ⟨mb, 0, none⟩ lm').trans m1; have z4 := (cell_bel hb1 ⟨vb, 0, none⟩ lv').trans v1; have z5 := (cell_bel hb1 ⟨eb, 1, none⟩ le').trans e1; have H1 := hid hb1; clear hb1))
  have HB1 : Hid (Below W.heap.size W w1) := hid (by first | exact H1.out | exact (bel_drewN (Below.refl _ _) _).trans H1.out | exact (Below.drew (Below.refl _ _)).trans H1.out)
  go_wp2
  go_ret
  exact ⟨rfl, HB.out.1.trans (HB1.out.mono HB.out.1.size)⟩

/-- An event above the watermark could go on with the run. -/
def lastsP (win t : Int) (r : En.Rn) : Bool := decide (En.far t r.first < win)

set_option maxHeartbeats 1000000 in
set_option maxRecDepth 1000000 in
theorem lasts_any (s first t win : Int) (ao : Option Addr) (n c eb : Nat) (w : World) (hw0 : 0 ≤ win) (hw1 : win ≤ 9999) (he : w.cell? ⟨eb, 1, none⟩ = some (.int .i64 win)) :
    Calls Tryz.prog 182 #[.pointer (some ⟨eb, 0, none⟩), .agg #[.int .i64 s, .slice ao n c, .int .i64 first], .int .i64 t] w fun e w' => e = .returned (.bool (decide (En.far t first < win))) ∧ Below w.heap.size w w' := by
  have le := World.block_lt_of_cell? w ⟨eb, 1, none⟩ he
  simp only at le
  have hal := (Below.refl w.heap.size w).alloc (Nat.le_refl _) (.cells #[.int .i64 s, .slice ao n c, .int .i64 first] 164)
  have hnew : (w.alloc (.cells #[.int .i64 s, .slice ao n c, .int .i64 first] 164)).heap[w.heap.size]? = some (.cells #[.int .i64 s, .slice ao n c, .int .i64 first] 164 (0, 0)) := heap_alloc_new w _
  generalize hW : w.alloc (.cells #[.int .i64 s, .slice ao n c, .int .i64 first] 164) = W at hal hnew
  have e1 := (cell_bel hal ⟨eb, 1, none⟩ le).trans he
  have r0 : W.cell? ⟨w.heap.size, 0, none⟩ = some (.int .i64 s) := by simp [World.cell?, hnew]
  have r1 : W.cell? ⟨w.heap.size, 1, none⟩ = some (.slice ao n c) := by simp [World.cell?, hnew]
  have r2 : W.cell? ⟨w.heap.size, 2, none⟩ = some (.int .i64 first) := by simp [World.cell?, hnew]
  have hsz := lt_of_block hnew
  have HA := hid (fun W' => age_any s first t ao n c W')
  have HB := hid (And.intro hal hsz)
  have hww := wrap_win hw0 hw1
  have le' : eb < W.heap.size := by have := hal.size; omega
  clear hal hnew he
  go_enter Tryz.func182, Tryz.ntmps182
  go_wp2
  go_region_held3 (fun W => W.cell? ⟨w.heap.size, 0, none⟩ = some (.int .i64 s) ∧ W.cell? ⟨w.heap.size, 1, none⟩ = some (.slice ao n c) ∧ W.cell? ⟨w.heap.size, 2, none⟩ = some (.int .i64 first) ∧ W.cell? ⟨eb, 1, none⟩ = some (.int .i64 win)) (go_keep) ((go_at_call 168; refine (HA.out _).mono ?_; rintro e w1 ⟨rfl, hb1⟩; have z0 := (cell_bel hb1 ⟨w.heap.size, 0, none⟩ hsz).trans r0; have z1 := (cell_bel hb1 ⟨w.heap.size, 1, none⟩ hsz).trans r1; have z2 := (cell_bel hb1 ⟨w.heap.size, 2, none⟩ hsz).trans r2; have z3 := (cell_bel hb1 ⟨eb, 1, none⟩ le').trans e1; have H1 := hid hb1; clear hb1))
  have HB1 : Hid (Below W.heap.size W w1) := hid (by first | exact H1.out | exact (bel_drewN (Below.refl _ _) _).trans H1.out | exact (Below.drew (Below.refl _ _)).trans H1.out)
  go_wp2
  go_ret
  exact ⟨rfl, HB.out.1.trans (HB1.out.mono HB.out.1.size)⟩

set_option maxHeartbeats 1000000 in
set_option maxRecDepth 1000000 in
theorem lasting1_any (s first t win : Int) (ao : Option Addr) (n c mb vb eb : Nat) (w : World) (hw0 : 0 ≤ win) (hw1 : win ≤ 9999)
    (hv : w.cell? ⟨vb, 0, none⟩ = some (.pointer (some ⟨eb, 0, none⟩))) (hm : w.cell? ⟨mb, 0, none⟩ = some (.int .i64 t)) (he : w.cell? ⟨eb, 1, none⟩ = some (.int .i64 win)) :
    Calls Tryz.prog 181 #[.agg #[.int .i64 s, .slice ao n c, .int .i64 first], .pointer (some ⟨vb, 0, none⟩), .pointer (some ⟨mb, 0, none⟩)] w fun e w' => e = .returned (.bool (decide (En.far t first < win))) ∧ Below w.heap.size w w' := by
  have lm := World.block_lt_of_cell? w ⟨mb, 0, none⟩ hm
  have lv := World.block_lt_of_cell? w ⟨vb, 0, none⟩ hv
  have le := World.block_lt_of_cell? w ⟨eb, 1, none⟩ he
  simp only at lm lv le
  have hal := (Below.refl w.heap.size w).alloc (Nat.le_refl _) (.cells #[.int .i64 s, .slice ao n c, .int .i64 first] 164)
  have hnew : (w.alloc (.cells #[.int .i64 s, .slice ao n c, .int .i64 first] 164)).heap[w.heap.size]? = some (.cells #[.int .i64 s, .slice ao n c, .int .i64 first] 164 (0, 0)) := heap_alloc_new w _
  generalize hW : w.alloc (.cells #[.int .i64 s, .slice ao n c, .int .i64 first] 164) = W at hal hnew
  have m1 := (cell_bel hal ⟨mb, 0, none⟩ lm).trans hm
  have v1 := (cell_bel hal ⟨vb, 0, none⟩ lv).trans hv
  have e1 := (cell_bel hal ⟨eb, 1, none⟩ le).trans he
  have r0 : W.cell? ⟨w.heap.size, 0, none⟩ = some (.int .i64 s) := by simp [World.cell?, hnew]
  have r1 : W.cell? ⟨w.heap.size, 1, none⟩ = some (.slice ao n c) := by simp [World.cell?, hnew]
  have r2 : W.cell? ⟨w.heap.size, 2, none⟩ = some (.int .i64 first) := by simp [World.cell?, hnew]
  have HA := hid (lasts_any s first t win ao n c eb W hw0 hw1 e1)
  have HB := hid hal
  clear hal hnew hm hv he
  go_enter Tryz.func181, Tryz.ntmps181
  go_wp2_with (go_at_call 182; refine HA.out.mono ?_; rintro e w1 ⟨rfl, hb1⟩; have H1 := hid hb1; clear hb1)
  go_ret
  exact ⟨rfl, HB.out.trans (H1.out.mono HB.out.size)⟩

set_option maxHeartbeats 1000000 in
set_option maxRecDepth 1000000 in
theorem ableToGoOn1_any (F : Nat → Prop) (l : List (Int × Bool)) (s : Nat) (first win : Int) (vs : Value) (ao : Option Addr) (n c vb eb : Nat) (w : World) (hS : StepsAt F w vs l) (hl : l.length ≤ 1000) (hs : s < l.length)
    (hv : w.cell? ⟨vb, 0, none⟩ = some (.pointer (some ⟨eb, 0, none⟩))) (he0 : w.cell? ⟨eb, 0, none⟩ = some vs) (he : w.cell? ⟨eb, 1, none⟩ = some (.int .i64 win)) :
    Calls Tryz.prog 177 #[.agg #[.int .i64 s, .slice ao n c, .int .i64 first], .pointer (some ⟨vb, 0, none⟩)] w fun e w' => e = .returned (.bool (goesOn l s)) ∧ Below w.heap.size w w' := by
  have lv := World.block_lt_of_cell? w ⟨vb, 0, none⟩ hv
  have le := World.block_lt_of_cell? w ⟨eb, 1, none⟩ he
  simp only at lv le
  have hal := (Below.refl w.heap.size w).alloc (Nat.le_refl _) (.cells #[.int .i64 s, .slice ao n c, .int .i64 first] 164)
  have hnew : (w.alloc (.cells #[.int .i64 s, .slice ao n c, .int .i64 first] 164)).heap[w.heap.size]? = some (.cells #[.int .i64 s, .slice ao n c, .int .i64 first] 164 (0, 0)) := heap_alloc_new w _
  generalize hW : w.alloc (.cells #[.int .i64 s, .slice ao n c, .int .i64 first] 164) = W at hal hnew
  have v1 := (cell_bel hal ⟨vb, 0, none⟩ lv).trans hv
  have e0 := (cell_bel hal ⟨eb, 0, none⟩ le).trans he0
  have e1 := (cell_bel hal ⟨eb, 1, none⟩ le).trans he
  have r0 : W.cell? ⟨w.heap.size, 0, none⟩ = some (.int .i64 s) := by simp [World.cell?, hnew]
  have HA := hid (fun W' (hW' : Below W.heap.size W W') => pGoesOn_any F vs l win s W' ((hS.below hal).below hW') hl hs)
  have hsz := lt_of_block hnew
  have lv' : vb < W.heap.size := by have := hal.size; omega
  have le' : eb < W.heap.size := by have := hal.size; omega
  obtain ⟨ap, cp, rfl, -, -⟩ := RowAt.slice hS
  have HB := hid hal
  clear hal hnew hv he he0 hS
  go_enter Tryz.func177, Tryz.ntmps177
  go_wp2
  go_region_held3 (fun W => W.cell? ⟨w.heap.size, 0, none⟩ = some (.int .i64 s) ∧ W.cell? ⟨vb, 0, none⟩ = some (.pointer (some ⟨eb, 0, none⟩)) ∧ W.cell? ⟨eb, 0, none⟩ = some (.slice ap l.length cp) ∧ W.cell? ⟨eb, 1, none⟩ = some (.int .i64 win)) (go_keep) ((go_at_call 178; refine (HA.out _ (by first | exact bel_drewN (Below.refl _ _) _ | exact Below.drew (Below.refl _ _) | exact Below.refl _ _)).mono ?_; rintro e w1 ⟨rfl, hb1⟩; have z0 := (cell_bel hb1 ⟨w.heap.size, 0, none⟩ hsz).trans r0; have z1 := (cell_bel hb1 ⟨vb, 0, none⟩ lv').trans v1; have z2 := (cell_bel hb1 ⟨eb, 0, none⟩ le').trans e0; have z3 := (cell_bel hb1 ⟨eb, 1, none⟩ le').trans e1; have H1 := hid hb1; clear hb1))
  have HB1 : Hid (Below W.heap.size W w1) := hid (by first | exact H1.out | exact (bel_drewN (Below.refl _ _) _).trans H1.out | exact (Below.drew (Below.refl _ _)).trans H1.out)
  go_wp2
  go_ret
  exact ⟨rfl, HB.out.trans (HB1.out.mono HB.out.size)⟩

end Go.Proofs.YtfldcmdhneegmaaGreatDoor

/-
  inWindow, ableToGoOn, lasting.
-/
namespace Go.Proofs.YtfldcmdhneegmaaGreatDoor
open Go.RowKit Go.Lib

theorem SelEnd.up {p : En.Rn → Bool} {l : List RV} {w w1 : World} {e : Ending} {w' : World} (h : SelEnd p l w1 e w') (hb : Below w.heap.size w w1) : SelEnd p l w e w' := by
  obtain ⟨v', h1, h2, h3⟩ := h
  exact ⟨v', h1, own_mono h2 hb.size, hb.trans (h3.mono hb.size)⟩
theorem one_of {w : World} {N : Nat} {x : Value} {t : TypeId} (h : w.heap[N]? = some (.cells #[x] t (0, 0))) : w.cell? ⟨N, 0, none⟩ = some x := by simp [World.cell?, h]
theorem rval_eq {F : Nat → Prop} {w : World} {x : RV} (h : IntsAt F w x.2 x.1.offs) : ∃ a n c, rval x = .agg #[.int .i64 x.1.step, .slice a n c, .int .i64 x.1.first] := by
  obtain ⟨a, c, e, -⟩ := RowAt.slice h
  exact ⟨a, _, c, by unfold rval; rw [e]⟩

def inWinP (win t : Int) (r : En.Rn) : Bool := decide (En.far t r.first ≤ win)

/-- Two new blocks. -/
theorem two_new (w : World) (x y : Value) (t u : TypeId) : Below w.heap.size w ((w.alloc (.cells #[x] t)).alloc (.cells #[y] u)) ∧ ((w.alloc (.cells #[x] t)).alloc (.cells #[y] u)).cell? ⟨w.heap.size, 0, none⟩ = some x ∧ ((w.alloc (.cells #[x] t)).alloc (.cells #[y] u)).cell? ⟨w.heap.size + 1, 0, none⟩ = some y :=
  ⟨((Below.refl _ _).alloc (Nat.le_refl _) _).alloc (by simp) _, one_of ((Below.heap_alloc _ _ _ (by simp)).trans (heap_alloc_new w _)), one_of (new_at (by simp))⟩

set_option maxHeartbeats 1000000 in
set_option maxRecDepth 1000000 in
theorem inWindow_any (F : Nat → Prop) (vl : Value) (l : List RV) (eb : Nat) (t win : Int) (w : World) (hl : RunsAt F w vl l) (hn : l.length ≤ 1000000) (hw0 : 0 ≤ win) (hw1 : win ≤ 9999) (he : w.cell? ⟨eb, 1, none⟩ = some (.int .i64 win)) :
    Calls Tryz.prog 104 #[.pointer (some ⟨eb, 0, none⟩), vl, .int .i64 t] w (SelEnd (inWinP win t) l w) := by
  have le := World.block_lt_of_cell? w ⟨eb, 1, none⟩ he
  simp only at le
  obtain ⟨ao, cap, rfl, -, -⟩ := hl.slice
  have hmf : ∀ (fn : Fn) (first cap : Array Value) (w : World), (Instr.makeFunc fn first cap).run Tryz.prog w = .ok (.func fn first cap) w := fun _ _ _ _ => rfl
  obtain ⟨h1, h2, h3⟩ := two_new w (.pointer (some ⟨eb, 0, none⟩)) (.int .i64 t) 67 2
  generalize hW : (w.alloc (.cells #[.pointer (some ⟨eb, 0, none⟩)] 67)).alloc (.cells #[.int .i64 t] 2) = W at h1 h2 h3
  have he' := (cell_bel h1 ⟨eb, 1, none⟩ le).trans he
  have HC := hid ((selected_any F (inWinP win t) (.slice ao l.length cap) l 167 #[.pointer (some ⟨w.heap.size + 1, 0, none⟩), .pointer (some ⟨w.heap.size, 0, none⟩)] W (enters_of Tryz.func167 (by kernel_rfl) rfl) (hl.below h1) hn (fun x hx W' hW' => by
    obtain ⟨a, n, c, e⟩ := rval_eq (hl.offs x hx)
    rw [e]
    exact inWindow1_any x.1.step x.1.first t win a n c (w.heap.size + 1) w.heap.size eb W' hw0 hw1 ((cell_bel hW' _ (World.block_lt_of_cell? W _ h3)).trans h3) ((cell_bel hW' _ (World.block_lt_of_cell? W _ h2)).trans h2) ((cell_bel hW' _ (World.block_lt_of_cell? W _ he')).trans he'))).mono (fun e w' h => h.up h1))
  clear hl he h1 h2 h3 he'
  go_enter Tryz.func104, Tryz.ntmps104
  go_wp2_with (go_at_call 166; refine HC.out.mono ?_; rintro e w1 ⟨v', rfl, hr1⟩; have H1 := hid hr1; clear hr1)
  go_ret
  exact ⟨_, rfl, H1.out⟩

set_option maxHeartbeats 1000000 in
set_option maxRecDepth 1000000 in
theorem lasting_any (F : Nat → Prop) (vl : Value) (l : List RV) (eb : Nat) (t win : Int) (w : World) (hl : RunsAt F w vl l) (hn : l.length ≤ 1000000) (hw0 : 0 ≤ win) (hw1 : win ≤ 9999) (he : w.cell? ⟨eb, 1, none⟩ = some (.int .i64 win)) :
    Calls Tryz.prog 110 #[.pointer (some ⟨eb, 0, none⟩), vl, .int .i64 t] w (SelEnd (lastsP win t) l w) := by
  have le := World.block_lt_of_cell? w ⟨eb, 1, none⟩ he
  simp only at le
  obtain ⟨ao, cap, rfl, -, -⟩ := hl.slice
  have hmf : ∀ (fn : Fn) (first cap : Array Value) (w : World), (Instr.makeFunc fn first cap).run Tryz.prog w = .ok (.func fn first cap) w := fun _ _ _ _ => rfl
  obtain ⟨h1, h2, h3⟩ := two_new w (.pointer (some ⟨eb, 0, none⟩)) (.int .i64 t) 67 2
  generalize hW : (w.alloc (.cells #[.pointer (some ⟨eb, 0, none⟩)] 67)).alloc (.cells #[.int .i64 t] 2) = W at h1 h2 h3
  have he' := (cell_bel h1 ⟨eb, 1, none⟩ le).trans he
  have HC := hid ((selected_any F (lastsP win t) (.slice ao l.length cap) l 181 #[.pointer (some ⟨w.heap.size, 0, none⟩), .pointer (some ⟨w.heap.size + 1, 0, none⟩)] W (enters_of Tryz.func181 (by kernel_rfl) rfl) (hl.below h1) hn (fun x hx W' hW' => by
    obtain ⟨a, n, c, e⟩ := rval_eq (hl.offs x hx)
    rw [e]
    exact lasting1_any x.1.step x.1.first t win a n c (w.heap.size + 1) w.heap.size eb W' hw0 hw1 ((cell_bel hW' _ (World.block_lt_of_cell? W _ h2)).trans h2) ((cell_bel hW' _ (World.block_lt_of_cell? W _ h3)).trans h3) ((cell_bel hW' _ (World.block_lt_of_cell? W _ he')).trans he'))).mono (fun e w' h => h.up h1))
  clear hl he h1 h2 h3 he'
  go_enter Tryz.func110, Tryz.ntmps110
  go_wp2_with (go_at_call 166; refine HC.out.mono ?_; rintro e w1 ⟨v', rfl, hr1⟩; have H1 := hid hr1; clear hr1)
  go_ret
  exact ⟨_, rfl, H1.out⟩

set_option maxHeartbeats 1000000 in
set_option maxRecDepth 1000000 in
theorem ableToGoOn_any (F G : Nat → Prop) (vl : Value) (l : List RV) (eb : Nat) (win : Int) (vs : Value) (st : List (Int × Bool)) (w : World) (hl : RunsAt F w vl l) (hn : l.length ≤ 1000000) (hS : StepsAt G w vs st) (hsl : st.length ≤ 1000) (hst : ∀ x ∈ l, x.1.step < st.length)
    (he0 : w.cell? ⟨eb, 0, none⟩ = some vs) (he : w.cell? ⟨eb, 1, none⟩ = some (.int .i64 win)) :
    Calls Tryz.prog 108 #[.pointer (some ⟨eb, 0, none⟩), vl] w (SelEnd (fun r => goesOn st r.step) l w) := by
  have le := World.block_lt_of_cell? w ⟨eb, 1, none⟩ he
  simp only at le
  obtain ⟨ao, cap, rfl, -, -⟩ := hl.slice
  have hmf : ∀ (fn : Fn) (first cap : Array Value) (w : World), (Instr.makeFunc fn first cap).run Tryz.prog w = .ok (.func fn first cap) w := fun _ _ _ _ => rfl
  have h1 := (Below.refl w.heap.size w).alloc (Nat.le_refl _) (.cells #[.pointer (some ⟨eb, 0, none⟩)] 67)
  have h2 : (w.alloc (.cells #[.pointer (some ⟨eb, 0, none⟩)] 67)).cell? ⟨w.heap.size, 0, none⟩ = some (.pointer (some ⟨eb, 0, none⟩)) := one_of (heap_alloc_new w _)
  generalize hW : w.alloc (.cells #[.pointer (some ⟨eb, 0, none⟩)] 67) = W at h1 h2
  have he' := (cell_bel h1 ⟨eb, 1, none⟩ le).trans he
  have he0' := (cell_bel h1 ⟨eb, 0, none⟩ le).trans he0
  have HC := hid ((selected_any F (fun r => goesOn st r.step) (.slice ao l.length cap) l 177 #[.pointer (some ⟨w.heap.size, 0, none⟩)] W (enters_of Tryz.func177 (by kernel_rfl) rfl) (hl.below h1) hn (fun x hx W' hW' => by
    obtain ⟨a, n, c, e⟩ := rval_eq (hl.offs x hx)
    rw [e]
    exact ableToGoOn1_any G st x.1.step x.1.first win vs a n c w.heap.size eb W' ((hS.below h1).below hW') hsl (hst x hx) ((cell_bel hW' _ (World.block_lt_of_cell? W _ h2)).trans h2) ((cell_bel hW' _ (World.block_lt_of_cell? W _ he0')).trans he0') ((cell_bel hW' _ (World.block_lt_of_cell? W _ he')).trans he'))).mono (fun e w' h => h.up h1))
  clear hl he h1 h2 he' he0 he0' hS hst
  go_enter Tryz.func108, Tryz.ntmps108
  go_wp2_with (go_at_call 166; refine HC.out.mono ?_; rintro e w1 ⟨v', rfl, hr1⟩; have H1 := hid hr1; clear hr1)
  go_ret
  exact ⟨_, rfl, H1.out⟩

end Go.Proofs.YtfldcmdhneegmaaGreatDoor

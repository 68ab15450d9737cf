import Derived.Test.YtfldcmdhneegmabGreatDoorSrJ
import Derived.Shelf.Abstract

/-
  selected: the runs that a function keeps, in a new list.
-/
namespace Go.Proofs.YtfldcmdhneegmabGreatDoor
open Go.RowKit Go.Lib

theorem Tryz.infoPRun : (Tryz.prog.info? 86).map (fun i => (i.zero, i.size, i.bytes)) = some (some (.agg #[.int .i64 0, .slice none 0 0, .int .i64 0]), 3, 40) := by kernel_rfl

/-- What the loop of selected carries. -/
structure SelRel (p : En.Rn → Bool) (l : List RV) (k : Nat) (w wr : World) (v : Value) (M : List RV) : Prop where
  own : wr.ownsRow w.heap.size 86 3 v M.length (runCells M)
  eq : M = (l.take k).filter fun x => p x.1
  bel : Below w.heap.size w wr
theorem SelRel.len {p : En.Rn → Bool} {l : List RV} {k : Nat} {w wr : World} {v : Value} {M : List RV} (h : SelRel p l k w wr v M) : M.length ≤ l.length := by
  rw [h.eq]
  refine Nat.le_trans (List.length_filter_le _ _) ?_
  rw [List.length_take]
  omega
theorem SelRel.skip {p : En.Rn → Bool} {l : List RV} {k : Nat} {w wr w2 : World} {v : Value} {M : List RV} (h : SelRel p l k w wr v M) (hk : k < l.length) (hp : p l[k].1 = false) (hb : Below wr.heap.size wr w2) : SelRel p l (k + 1) w w2 v M :=
  ⟨own_below h.own hb, by rw [h.eq, List.take_succ_eq_append_getElem hk, List.filter_append]; simp [hp], h.bel.trans (hb.mono h.bel.size)⟩
theorem SelRel.more {p : En.Rn → Bool} {l : List RV} {k : Nat} {w wr w2 w5 : World} {v v5 : Value} {M : List RV} {o : Obj} (h : SelRel p l k w wr v M) (hk : k < l.length) (hp : p l[k].1 = true) (hb : Below wr.heap.size wr w2)
    (own5 : w5.ownsRow w.heap.size 86 3 v5 (M.length + 1) (runCells M ++ [.int .i64 l[k].1.step, l[k].2, .int .i64 l[k].1.first])) (gr5 : (w2.alloc o).grownBy w5 v.ownBlock) : SelRel p l (k + 1) w w5 v5 (M ++ [l[k]]) := by
  have hB := h.bel.trans (hb.mono h.bel.size)
  refine ⟨by simpa [runCells] using own5, by rw [h.eq, List.take_succ_eq_append_getElem hk, List.filter_append]; simp [hp], (hB.alloc hB.size o).grown gr5 (Nat.le_trans hB.size (by simp)) (fun k hk => (own_block h.own k hk).1)⟩

/-- What selected leaves. -/
def SelEnd (p : En.Rn → Bool) (l : List RV) (w : World) (e : Ending) (w' : World) : Prop :=
  ∃ v', e = .returned v' ∧ w'.ownsRow w.heap.size 86 3 v' (l.filter fun x => p x.1).length (runCells (l.filter fun x => p x.1)) ∧ Below w.heap.size w w'

set_option maxHeartbeats 4000000 in
set_option maxRecDepth 1000000 in
theorem selected_any (F : Nat → Prop) (p : En.Rn → Bool) (vl : Value) (l : List RV) (g : Nat) (cb : Array Value) (w : World) (eg : ∀ args w, (callFunc g args).run Tryz.prog w = .ok (.enter g args) w) (hl : RunsAt F w vl l) (hn : l.length ≤ 1000000)
    (hk : ∀ x ∈ l, ∀ W, Below w.heap.size w W → Calls Tryz.prog g (#[rval x] ++ cb) W fun e w' => e = .returned (.bool (p x.1)) ∧ Below W.heap.size W w') :
    Calls Tryz.prog 129 #[vl, .func (.func g) #[] cb] w (SelEnd p l w) := by
  obtain ⟨ao, cap, rfl, hc1, hc2⟩ := hl.slice
  have HL := hid hl
  have HK := hid hk
  clear hl hk
  go_enter Tryz.func129, Tryz.ntmps129
  go_wp2
  go_loopw [5, 10] (fun o i wr => ∃ (k : Nat) (v : Value) (M : List RV), k ≤ l.length ∧ i = .int .i64 k ∧ o = v ∧ Hid (SelRel p l k w wr v M)) (fun _ i _ => l.length - (intOf i).toNat)
  case atStart => exact ⟨0, _, [], by omega, rfl, rfl, World.ownsRow_nil _ _ _ _, by simp, Below.refl _ _⟩
  case round =>
    obtain ⟨k, v, M, hk, rfl, rfl, hr⟩ := hrel
    obtain ⟨av, cv, rfl⟩ := own_slice hr.out.own
    by_cases hlt : k < l.length
    · obtain ⟨b1, o1, rfl, hb1, c0, c1, c2⟩ := (HL.out.below hr.out.bel).get hlt
      have hk' : (k : Int) < (l.length : Int) := by omega
      have hmem : l[k] ∈ l := List.getElem_mem hlt
      obtain ⟨ak, nk, ck, hvk⟩ : ∃ a n c, l[k].2 = .slice a n c := by
        obtain ⟨a, c, h, -⟩ := RowAt.slice (HL.out.offs _ hmem)
        exact ⟨a, _, c, h⟩
      have HC : Hid (∀ W, Below w.heap.size w W → Calls Tryz.prog g (#[.agg #[.int .i64 l[k].1.step, .slice ak nk ck, .int .i64 l[k].1.first]] ++ cb) W fun e w' => e = .returned (.bool (p l[k].1)) ∧ Below W.heap.size W w') := hid (fun W hW => by
        have := HK.out _ hmem W hW
        unfold rval at this
        rw [hvk] at this
        exact this)
      rw [hvk] at c1
      have HX := hid (And.intro hvk hlt)
      obtain ⟨x, hx⟩ : ∃ x, l[k] = x := ⟨_, rfl⟩
      rw [hx] at c0 c2 HC
      have HXX := hid hx
      clear hx hvk hmem
      by_cases hp : p x.1 = true
      · rw [hp] at HC
        have HP := hid hp
        clear hp
        go_wp2
        have hal := (Below.refl wr.heap.size wr).alloc (Nat.le_refl _) (.cells #[.int .i64 x.1.step, .slice ak nk ck, .int .i64 x.1.first] 86)
        have ha : (wr.alloc (.cells #[.int .i64 x.1.step, .slice ak nk ck, .int .i64 x.1.first] 86)).heap[wr.heap.size]? = some (.cells #[.int .i64 x.1.step, .slice ak nk ck, .int .i64 x.1.first] 86 (0, 0)) := heap_alloc_new wr _
        refine (HC.out _ (hr.out.bel.alloc hr.out.bel.size _)).mono ?_
        rintro e w1 ⟨rfl, hb1⟩
        have hw1 := (hb1.block _ (lt_of_block ha)).trans ha
        have y0 : w1.cell? ⟨wr.heap.size, 0, none⟩ = some (.int .i64 x.1.step) := by simp [World.cell?, hw1]
        have y1 : w1.cell? ⟨wr.heap.size, 1, none⟩ = some (.slice ak nk ck) := by simp [World.cell?, hw1]
        have y2 : w1.cell? ⟨wr.heap.size, 2, none⟩ = some (.int .i64 x.1.first) := by simp [World.cell?, hw1]
        have H1 := hid (hal.trans (hb1.mono hal.size))
        clear hb1 hw1 ha hal c0 c1 c2
        obtain ⟨i0, hi0, hz0, hz1, hz2⟩ := info_parts Tryz.infoPRun
        have hMl := hr.out.len
        go_wp2_with (at_builtin; refine wpList_append_row rfl _ _ 78 rfl w.heap.size 86 i0 (.agg #[.int .i64 0, .slice none 0 0, .int .i64 0]) 3 40 Tryz.underlying78 hi0 hz0 hz1 hz2 rfl (by decide) _ _ _ rfl ((own_below hr.out.own H1.out).alloc _) (fun _ => True) _ 1 [.int .i64 x.1.step, .slice ak nk ck, .int .i64 x.1.first] rfl (three_row (heap_alloc_new _ _)) (by intro u hu; simp at hu; rcases hu with rfl | rfl | rfl <;> rfl) (by unfold maxLen; omega) (by omega) (Nat.le_trans hr.out.bel.size (Nat.le_trans H1.out.size (by simp))) ?_)
        intro v5 w5 own5 gr5
        have HN := hid (hr.out.more hlt (by rw [HXX.out]; exact HP.out) H1.out (by rw [HX.out.1, HXX.out]; exact own5) gr5)
        clear own5 gr5
        go_wp2
        go_roundw
        case rel => exact ⟨k + 1, _, _, by omega, by go_num, rfl, HN⟩
        case measure => simp [intOf]; omega
      · have hp' : p x.1 = false := by simpa using hp
        rw [hp'] at HC
        have HP := hid hp'
        clear hp hp'
        go_wp2
        have hal := (Below.refl wr.heap.size wr).alloc (Nat.le_refl _) (.cells #[.int .i64 x.1.step, .slice ak nk ck, .int .i64 x.1.first] 86)
        refine (HC.out _ (hr.out.bel.alloc hr.out.bel.size _)).mono ?_
        rintro e w1 ⟨rfl, hb1⟩
        have H1 := hid (hal.trans (hb1.mono hal.size))
        clear hb1 hal c0 c1 c2
        go_wp2
        go_roundw
        case rel => exact ⟨k + 1, _, _, by omega, by go_num, rfl, hr.out.skip hlt (by rw [HXX.out]; exact HP.out) H1.out⟩
        case measure => simp [intOf]; omega
    · have hk' : decide ((k : Int) < (l.length : Int)) = false := decide_eq_false (by omega)
      go_wp2
      go_ret
      have hq := hr.out.eq
      rw [List.take_of_length_le (by omega)] at hq
      exact ⟨_, rfl, by rw [← hq]; exact hr.out.own, hr.out.bel⟩

end Go.Proofs.YtfldcmdhneegmabGreatDoor

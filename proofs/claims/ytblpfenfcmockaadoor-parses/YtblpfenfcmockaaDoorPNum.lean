/-
  patternNumber.
-/
import Derived.Test.YtblpfenfcmockaaDoorAsX
namespace Go.Proofs.YtblpfenfcmockaaDoor
open Go.RowKit Go.Extern.Stop Go.Stop Go.Extern

/-- package errors' variable errorType holds the handle of the type error. -/
def ErrType (w : World) : Prop := w.cell? ⟨2, 0, none⟩ = some (.iface 108 (.agg #[.pointer (some ⟨8, 34, none⟩)]))

set_option maxHeartbeats 4000000 in
theorem pnum_long (n : Int) (w : World) (hg : ErrType w) :
    Calls Tryd.prog 9 #[.iface 52 (.agg #[.int .i64 n])] w fun e w' => e = .returned (.int .i64 1) ∧ Below w.heap.size w w' := by
  have hlt : 2 < w.heap.size := World.block_lt_of_cell? w ⟨2, 0, none⟩ hg
  have hA := hid (as_hit n ⟨w.heap.size, 0, none⟩ (.int .i64 0) (w.alloc (.cells #[.int .i64 0] 52)) (by rw [World.cell?_alloc_lt _ _ ⟨2, 0, none⟩ hlt]; exact hg) (by simp) (by simp))
  clear hg
  go_enter Tryd.func9, Tryd.ntmps9
  go_wp2_with (go_at_call 18; refine hA.out.mono ?_; rintro e w' ⟨rfl, hw⟩; have HW := hid hw; clear hw)
  go_ret
  refine ⟨rfl, ?_⟩
  rw [HW.out]
  exact ((((((Below.refl _ w).alloc (Nat.le_refl _) _).alloc (by simp) _).alloc (by simp; omega) _).alloc (by simp; omega) _).alloc (by simp; omega) _).setCell (Nat.le_refl _) _

set_option maxHeartbeats 4000000 in
theorem pnum_syntax (n : Int) (w : World) (hg : ErrType w) :
    Calls Tryd.prog 9 #[.iface 57 (.agg #[.int .i64 n])] w fun e w' => e = .returned (.int .i64 2) ∧ Below w.heap.size w w' := by
  have hlt : 2 < w.heap.size := World.block_lt_of_cell? w ⟨2, 0, none⟩ hg
  have hA := hid (as_miss n ⟨w.heap.size, 0, none⟩ (w.alloc (.cells #[.int .i64 0] 52)) (by rw [World.cell?_alloc_lt _ _ ⟨2, 0, none⟩ hlt]; exact hg))
  clear hg
  go_enter Tryd.func9, Tryd.ntmps9
  go_wp2_with (go_at_call 18; refine hA.out.mono ?_; rintro e w' ⟨rfl, hw⟩; have HW := hid hw; clear hw)
  go_ret
  refine ⟨rfl, ?_⟩
  rw [HW.out]
  exact ((((Below.refl _ w).alloc (Nat.le_refl _) _).alloc (by simp) _).alloc (by simp; omega) _).alloc (by simp; omega) _

end Go.Proofs.YtblpfenfcmockaaDoor

/-
  package spotter's number at nil; what errors.As reads. Made by mkas.py.
-/
import Derived.Test.YtfldcmdhneegmaaDoorAsW
namespace Go.Proofs.YtfldcmdhneegmaaDoor
open Go.RowKit Go.Extern.Stop Go.Stop Go.Extern

/-- package errors' variable errorType holds the handle of the type error. -/
def ErrType (w : World) : Prop := w.cell? ⟨4, 0, none⟩ = some (.iface 181 (.agg #[.pointer (some ⟨8, 39, none⟩)]))
theorem ErrType.below {w w' : World} (h : ErrType w) (hb : Below w.heap.size w w') : ErrType w' := by
  have hlt : 4 < w.heap.size := World.block_lt_of_cell? w ⟨4, 0, none⟩ h
  unfold ErrType
  rw [World.cell?_of_block (a := ⟨4, 0, none⟩) (hb.block _ hlt)]
  exact h
theorem ErrType.alloc {w : World} (h : ErrType w) (o : Obj) : ErrType (w.alloc o) := h.below ((Below.refl _ w).alloc (Nat.le_refl _) o)

set_option maxHeartbeats 4000000 in
theorem number_nil (w : World) :
    Calls Tryd.prog 15 #[.nilIface] w fun e w' => e = .returned (.int .i64 0) ∧ w' = w := by
  go_enter Tryd.func15, Tryd.ntmps15
  go_wp2
  go_ret
  exact ⟨rfl, rfl⟩

end Go.Proofs.YtfldcmdhneegmaaDoor

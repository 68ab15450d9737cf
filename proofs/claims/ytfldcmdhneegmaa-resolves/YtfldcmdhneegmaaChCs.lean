/-
  Words about a delta in a block; Check of a state.
-/
import Derived.Test.YtfldcmdhneegmaaChC
namespace Go.Proofs.Ytfldcmdhneegmaa
open Go.RowKit Go.Lib

theorem box_at {w W : World} {x y z u : Value} {t : TypeId} (h : Below (w.heap.size + 1) (w.alloc (.cells #[x, y, z, u] t)) W) : W.cell? ⟨w.heap.size, 0, none⟩ = some x ∧ W.cell? ⟨w.heap.size, 1, none⟩ = some y ∧ W.cell? ⟨w.heap.size, 2, none⟩ = some z ∧ W.cell? ⟨w.heap.size, 3, none⟩ = some u := by
  obtain ⟨h0, h1, h2, h3, -⟩ := blk_four ((h.block w.heap.size (by omega)).trans (heap_alloc_new w _))
  exact ⟨h0, h1, h2, h3⟩

theorem fCheckS_any (F : Nat → Prop) (v : Value) (l : List UInt8) (w : World) (hv : BytesAt F w v l) (hl : l.length ≤ 1000000) :
    Calls Try.prog 13 #[.int .u8 83, v] w (CheckEnd l 83 w) := by
  have h := fCheck_any F v l 83 w hv hl
  have e : (((83 : UInt8).toNat : Nat) : Int) = 83 := by decide
  rw [e] at h
  exact h
theorem sound_four {l : List UInt8} {kind : UInt8} (h : (Fr.sound l kind).isSome = true) : 5 ≤ l.length := by
  obtain ⟨c, hc⟩ := Option.isSome_iff_exists.1 h
  exact sound_five hc

end Go.Proofs.Ytfldcmdhneegmaa

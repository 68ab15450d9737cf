/-
  A byte of a text.
-/
import Derived.Test.YtfldcmdhneegmaaDoorRound
import Derived.Test.YtfldcmdhneegmaaDoorPStr
namespace Go.Proofs.YtfldcmdhneegmaaDoor
open Go.RowKit Go.Lib

theorem extract_one (t : List UInt8) (k : Nat) (hk : k < t.length) : (⟨t.toArray⟩ : ByteArray).extract k (k + 1) = ⟨#[t[k]]⟩ := by
  apply ByteArray.ext
  rw [ByteArray.data_extract]
  apply Array.ext
  · simp; omega
  · intro i h1 h2
    have h0 : i = 0 := by simp at h2; omega
    subst h0
    simp
theorem slice_one (t : List UInt8) (k : Nat) (hk : k < t.length) (w : World) : (Instr.slice 9 (.string ⟨t.toArray⟩) (some (.int .i64 k)) (some (.int .i64 ((k : Int) + 1))) none).run Tryd.prog w = .ok (.string ⟨#[t[k]]⟩) w := by
  rw [run_slice_string (P := Tryd.prog) w 9 ⟨t.toArray⟩ .i64 .i64 k ((k : Int) + 1) Tryd.underlying9 (by omega) (by omega) (by simp [ByteArray.size]; omega)]
  rw [show (k : Int).toNat = k by omega, show ((k : Int) + 1).toNat = k + 1 by omega, extract_one t k hk]
theorem index_one (t : List UInt8) (k : Nat) (hk : k < t.length) (w : World) : (Instr.index 9 (.string ⟨t.toArray⟩) (.int .i64 k)).run Tryd.prog w = .ok (.int .u8 t[k].toNat) w := by
  rw [run_index_string (P := Tryd.prog) w 9 ⟨t.toArray⟩ .i64 k Tryd.underlying9]
  rw [dif_pos ⟨by omega, by simp [ByteArray.size]; omega⟩]
  rfl

end Go.Proofs.YtfldcmdhneegmaaDoor

/-
  Texts as rows of bytes, and back.
-/
import Derived.Test.YtfldcmdhneegmaaFrC
import Derived.Lib.ConvBytes
namespace Go.Proofs.Ytfldcmdhneegmaa
open Go.RowKit Go.Lib

theorem bytesWorld_below (w : World) (e : TypeId) (s : ByteArray) : Below w.heap.size w (bytesWorld w e s) :=
  ⟨rfl, rfl, rfl, by rw [bytesWorld_size]; omega, fun i hi => bytesWorld_at_old w e s i hi⟩
/-- The row of a text's bytes. -/
theorem bytes_of_text (w : World) (l : List UInt8) (hl : l.length ≤ 1000000) : BytesAt (fun x => x = w.heap.size) (bytesWorld w 5 ⟨l.toArray⟩) (.slice (some ⟨w.heap.size, 0, none⟩) l.length (grownCap w l.length 0 5)) l := by
  have hs : (⟨l.toArray⟩ : ByteArray).size = l.length := by simp [ByteArray.size]
  refine ⟨by simp [byteCells], Or.inr ⟨w.heap.size, 0, _, rfl, rfl, by rw [bytesWorld_size]; omega, grownCap_ge w _ _ _, grownCap_le_maxLen w _ _ _ (by unfold maxLen; omega), fun j u hj => ?_⟩⟩
  have hjl : j < l.length := by
    have := (List.getElem?_eq_some_iff.1 hj).1
    simpa [byteCells] using this
  have := bytesWorld_cell w 5 ⟨l.toArray⟩ j (by rw [hs]; exact hjl)
  simp [byteCells, hjl] at hj
  subst hj
  simp only [Nat.zero_add]
  rw [this]
  simp [hjl]

theorem run_nil_text (W : World) : (convert 24 9 (.slice none 0 0)).run Try.prog W = .ok (.string ⟨#[]⟩) W := run_convert_bytes_nil W 24 5 Try.underlying24 Try.underlying5 0 0 9 Try.underlying9
theorem own_text {w : World} {base : Nat} {v : Value} {l : List UInt8} (h : w.ownsRow base 5 1 v l.length (byteCells l)) (h0 : 0 < l.length) : (convert 24 9 v).run Try.prog w = .ok (.string ⟨l.toArray⟩) w := by
  have hv : BytesAt (fun _ => True) w v l := (RowAt.ofOwn h).mono (fun _ _ _ => trivial)
  refine hv.text ?_
  intro e
  subst e
  obtain ⟨ao, cap, he⟩ := own_slice h
  injection he with h1 h2 h3
  omega

end Go.Proofs.Ytfldcmdhneegmaa

/-
  package bytes' WALK of Equal, at rows of bytes.
-/
import Derived.Test.YtfldcmdhneegmaaFrC
namespace Go.Proofs.Ytfldcmdhneegmaa
open Go.RowKit Go.Lib

set_option maxHeartbeats 1000000 in
theorem bEqual_any (F G : Nat → Prop) (v u : Value) (l m : List UInt8) (w : World) (h : BytesAt F w v l) (h' : BytesAt G w u m) (hn : v ≠ .slice none 0 0) (hn' : u ≠ .slice none 0 0) :
    Calls Try.prog 19 #[v, u] w fun e w' => e = .returned (.bool (decide (l = m))) ∧ w' = w := by
  have h10 := h.text hn
  have h20 := h'.text hn'
  clear h h'
  go_enter Try.func19, Try.ntmps19
  go_wp2
  go_ret
  refine ⟨?_, rfl⟩
  by_cases e : l = m
  · subst e; simp
  · simp [e]


end Go.Proofs.Ytfldcmdhneegmaa

import Derived.Test.YtfldcmdhneegmabGreatDoorZ34
import Derived.Test.YtfldcmdhneegmabGreatDoorZ20

/-
  package spotter's WALK of Delta.
-/
namespace Go.Proofs.YtfldcmdhneegmabGreatDoor
open Go.RowKit Go.Lib

/-- What the program's call Delta answers. -/
def SDeltaEnd (a b : List UInt8) (w : World) (e : Ending) (w' : World) : Prop :=
  Below w.heap.size w w' ∧
    if (Fr.sound a 83).isSome = true ∧ (Fr.sound b 83).isSome = true then ∃ v, e = .returned (.tuple #[v, .int .i64 0]) ∧ w'.ownsRow w.heap.size 5 1 v (Fr.delta a b).length (byteCells (Fr.delta a b))
    else e = .returned (.tuple #[.slice none 0 0, .int .i64 5])

set_option maxHeartbeats 2000000 in
set_option maxRecDepth 1000000 in
theorem sDelta_any (F G : Nat → Prop) (v u : Value) (a b : List UInt8) (w : World) (hv : BytesAt F w v a) (hu : BytesAt G w u b) (ha : a.length ≤ 500000) (hb : b.length ≤ 500000) (hg : ErrType w) :
    Calls Tryz.prog 8 #[v, u] w (SDeltaEnd a b w) := by
  have HC := hid (cDelta_any F G v u a b w hv hu ha hb)
  have HG := hid hg
  clear hv hu hg
  by_cases h : (Fr.sound a 83).isSome = true ∧ (Fr.sound b 83).isSome = true
  · have HX := hid h
    clear h
    go_enter Tryz.func8, Tryz.ntmps8
    go_wp2_with (first
      | (go_at_call 18; refine HC.out.mono ?_; rintro e w1 ⟨hb1, he⟩; rw [if_pos HX.out] at he; obtain ⟨v1, rfl, ho⟩ := he; have H1 := hid (And.intro hb1 ho); clear hb1 ho)
      | (go_at_call 19; refine (number_nil _).mono ?_; rintro e w2 ⟨rfl, hw⟩; subst hw))
    go_ret2
    unfold SDeltaEnd
    rw [if_pos HX.out]
    exact ⟨H1.out.1, _, rfl, H1.out.2⟩
  · have HX := hid h
    clear h
    go_enter Tryz.func8, Tryz.ntmps8
    go_wp2_with (first
      | (go_at_call 18; refine HC.out.mono ?_; rintro e w1 ⟨hb1, he⟩; rw [if_neg HX.out] at he; obtain ⟨n1, s1, rfl⟩ := he; have H1 := hid hb1; clear hb1)
      | (go_at_call 19; refine (number_bytes _ _ _ (HG.out.below H1.out)).mono ?_; rintro e w2 ⟨rfl, hb2⟩; have H2 := hid (H1.out.trans (hb2.mono H1.out.size)); clear hb2))
    go_ret2
    unfold SDeltaEnd
    rw [if_neg HX.out]
    exact ⟨H2.out, rfl⟩

end Go.Proofs.YtfldcmdhneegmabGreatDoor

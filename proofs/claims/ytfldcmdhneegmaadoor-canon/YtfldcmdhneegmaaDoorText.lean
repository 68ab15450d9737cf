/-
  PLAIN: a pattern's canonical text.
-/
import Derived.Test.YtfldcmdhneegmaaDoorPlain
import Derived.Lib.ItoaNum
namespace Go.Proofs.YtfldcmdhneegmaaDoor
namespace Pl
open Go.Lib

def stepText (x : Int × Bool) : List UInt8 := encodeRune x.1 ++ ((if x.2 then [43] else []) ++ [32])
def stepsText (l : List (Int × Bool)) : List UInt8 := l.flatMap stepText
def text (l : List (Int × Bool)) (win : Int) : List UInt8 := stepsText l ++ ([47, 32] ++ itoa win)

theorem encodeRune_length (r : Int) : 1 ≤ (encodeRune r).length ∧ (encodeRune r).length ≤ 4 := by
  have := encodeRuneZ_length r
  simpa [encodeRune] using this
theorem stepText_length (x : Int × Bool) : (stepText x).length ≤ 6 := by
  have := (encodeRune_length x.1).2
  unfold stepText
  split <;> simp <;> omega
theorem stepsText_length (l : List (Int × Bool)) : (stepsText l).length ≤ 6 * l.length := by
  induction l with
  | nil => simp [stepsText]
  | cons x r ih =>
    have h1 := stepText_length x
    have h2 : stepsText (x :: r) = stepText x ++ stepsText r := rfl
    rw [h2, List.length_append, List.length_cons]
    omega
theorem stepsText_snoc (l : List (Int × Bool)) (x : Int × Bool) : stepsText (l ++ [x]) = stepsText l ++ stepText x := by simp [stepsText]
theorem take_snoc {α : Type} (l : List α) (k : Nat) (h : k < l.length) : l.take (k + 1) = l.take k ++ [l[k]] := by
  rw [List.take_succ_eq_append_getElem h]

theorem decDigits_length (u : Nat) (h : u < 10000) : (decDigits u).length ≤ 4 := by
  rw [decDigits]
  split
  · simp
  · rw [decDigits]
    split
    · simp
    · rw [decDigits]
      split
      · simp
      · rw [decDigits]
        rw [dif_pos (by omega)]
        simp
theorem itoa_eq (n : Int) (h : 0 ≤ n) : itoa n = decDigits n.toNat := by
  unfold itoa
  rw [if_neg (by omega)]
theorem itoa_length (n : Int) (h : 0 ≤ n) (h9 : n ≤ 9999) : (itoa n).length ≤ 4 := by
  rw [itoa_eq n h]
  exact decDigits_length _ (by omega)

end Pl
end Go.Proofs.YtfldcmdhneegmaaDoor

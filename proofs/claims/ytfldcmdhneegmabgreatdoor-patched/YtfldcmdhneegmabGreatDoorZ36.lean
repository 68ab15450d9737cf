import Derived.Test.YtfldcmdhneegmabGreatDoorPlain
import Derived.Lib.ItoaNum
import Derived.Test.YtfldcmdhneegmabGreatDoorZ09
import Derived.Test.YtfldcmdhneegmabGreatDoorZ00

/-
  PLAIN: a pattern's canonical text.
-/
namespace Go.Proofs.YtfldcmdhneegmabGreatDoor
namespace Pl
open Go.Lib

def stepText (x : Int × Bool) : List UInt8 := encodeRune x.1 ++ ((if x.2 then [43] else []) ++ [32])
def stepsText (l : List (Int × Bool)) : List UInt8 := l.flatMap stepText
def text (l : List (Int × Bool)) (win : Int) : List UInt8 := stepsText l ++ ([47, 32] ++ itoa win)

theorem encodeRune_length (r : Int) : 1 ≤ (encodeRune r).length ∧ (encodeRune r).length ≤ 4 := by
  have := encodeRuneZ_length r
  simpa [encodeRune] using this
theorem stepText_length (x : Int × Bool) : (stepText x).length ≤ 6 := by
  have := (encodeRune_length x.1).2
  unfold stepText
  split <;> simp <;> omega
theorem stepsText_length (l : List (Int × Bool)) : (stepsText l).length ≤ 6 * l.length := by
  induction l with
  | nil => simp [stepsText]
  | cons x r ih =>
    have h1 := stepText_length x
    have h2 : stepsText (x :: r) = stepText x ++ stepsText r := rfl
    rw [h2, List.length_append, List.length_cons]
    omega
theorem stepsText_snoc (l : List (Int × Bool)) (x : Int × Bool) : stepsText (l ++ [x]) = stepsText l ++ stepText x := by simp [stepsText]
theorem take_snoc {α : Type} (l : List α) (k : Nat) (h : k < l.length) : l.take (k + 1) = l.take k ++ [l[k]] := by
  rw [List.take_succ_eq_append_getElem h]

theorem decDigits_length (u : Nat) (h : u < 10000) : (decDigits u).length ≤ 4 := by
  rw [decDigits]
  split
  · simp
  · rw [decDigits]
    split
    · simp
    · rw [decDigits]
      split
      · simp
      · rw [decDigits]
        rw [dif_pos (by omega)]
        simp
theorem itoa_eq (n : Int) (h : 0 ≤ n) : itoa n = decDigits n.toNat := by
  unfold itoa
  rw [if_neg (by omega)]
theorem itoa_length (n : Int) (h : 0 ≤ n) (h9 : n ≤ 9999) : (itoa n).length ≤ 4 := by
  rw [itoa_eq n h]
  exact decDigits_length _ (by omega)

end Pl
end Go.Proofs.YtfldcmdhneegmabGreatDoor

/-
  PLAIN: the bytes of a saved engine.
-/
namespace Go.Proofs.YtfldcmdhneegmabGreatDoor
namespace En

def evB (e : Ev) : List UInt8 := Fr.num e.off.toNat ++ (Fr.num e.kind.toNat ++ Fr.mom e.time)
def offsB (l : List Int) : List UInt8 := l.flatMap fun o => Fr.num o.toNat
def runB (r : Rn) : List UInt8 := Fr.num r.step ++ (Fr.num r.offs.length ++ (offsB r.offs ++ Fr.mom r.first))
def evsB (l : List Ev) : List UInt8 := l.flatMap evB
def runsB (l : List Rn) : List UInt8 := l.flatMap runB
/-- What stands in the frame of a state: its pattern's text, its watermark, its next offset, what waits (in order), what is under way. -/
def headB (text : List UInt8) (W Next : Int) : List UInt8 := 83 :: (Fr.num text.length ++ text ++ Fr.mom W ++ Fr.num Next.toNat)
def stateB (text : List UInt8) (W Next : Int) (Q : List Ev) (A : List Rn) : List UInt8 := headB text W Next ++ (Fr.num Q.length ++ evsB (sortEv Q)) ++ (Fr.num A.length ++ runsB A)

theorem flat_take {α β : Type} (f : α → List β) (l : List α) (k : Nat) (hk : k < l.length) : (l.take (k + 1)).flatMap f = (l.take k).flatMap f ++ f l[k] := by
  rw [List.take_succ_eq_append_getElem hk, List.flatMap_append]
  simp
theorem flat_take_le {α β : Type} (f : α → List β) (l : List α) (k : Nat) : ((l.take k).flatMap f).length ≤ (l.flatMap f).length := by
  have h : l.flatMap f = (l.take k).flatMap f ++ (l.drop k).flatMap f := by rw [← List.flatMap_append, List.take_append_drop]
  rw [h, List.length_append]
  omega
end En
end Go.Proofs.YtfldcmdhneegmabGreatDoor

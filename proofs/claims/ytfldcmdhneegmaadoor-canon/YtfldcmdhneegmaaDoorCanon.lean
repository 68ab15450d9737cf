/-
  THE LAW Canon: its walk.
-/
import Derived.Test.YtfldcmdhneegmaaDoorSParse
import Derived.Test.YtfldcmdhneegmaaDoorRound
namespace Go.Proofs.YtfldcmdhneegmaaDoor
open Go.RowKit Go.Lib

theorem answer_known : Pl.answer ⟨#[32, 97, 43, 32, 32, 98, 47, 32, 49, 48]⟩ = ([97, 43, 32, 98, 32, 47, 32, 49, 48], 0) := by
  have h : Pl.parse ⟨#[32, 97, 43, 32, 32, 98, 47, 32, 49, 48]⟩ = some ([(97, true), (98, false)], 10) := by decide +kernel
  unfold Pl.answer
  rw [if_neg (by decide), h]
  simp only [Pl.text, Pl.stepsText, Pl.stepText, List.flatMap_cons, List.flatMap_nil, Pl.itoa_eq 10 (by decide)]
  rw [show (10 : Int).toNat = 10 from rfl, decDigits, dif_neg (by omega), decDigits, dif_pos (by omega)]
  decide

theorem answer_err {s : ByteArray} (h : (Pl.answer s).2 ≠ 0) : (Pl.answer s).1 = [] := by
  revert h
  unfold Pl.answer
  split
  · intro _; rfl
  · split
    · intro _; rfl
    · intro h; exact absurd rfl h

theorem answer_ok {s : ByteArray} (h : (Pl.answer s).2 = 0) : ∃ l win, Pl.Fine l win ∧ (Pl.answer s).1 = Pl.text l win := by
  revert h
  unfold Pl.answer
  split
  · intro h; exact absurd h (by decide)
  · split
    · intro h; exact absurd h (by decide)
    · rename_i l win hq
      intro _
      exact ⟨l, win, Pl.fine_parse hq, rfl⟩

theorem answer_text (l : List (Int × Bool)) (win : Int) (hf : Pl.Fine l win) : Pl.answer ⟨(Pl.text l win).toArray⟩ = (Pl.text l win, 0) := by
  have := Pl.text_length l win hf
  unfold Pl.answer
  rw [if_neg (by simp [ByteArray.size]; omega), Pl.parse_text l win hf]

theorem answer_wide (l : List (Int × Bool)) (win : Int) (hf : Pl.Fine l win) (h : (Pl.widen (Pl.text l win)).length ≤ 58) : Pl.answer ⟨([32] ++ Pl.widen (Pl.text l win) ++ [32]).toArray⟩ = (Pl.text l win, 0) := by
  unfold Pl.answer
  rw [if_neg (by simp [ByteArray.size]; omega), Pl.parse_wide l win hf]

theorem answer_le (s : ByteArray) : (Pl.answer s).1.length ≤ 30 := by
  by_cases h : (Pl.answer s).2 = 0
  · obtain ⟨l, win, hf, e⟩ := answer_ok h
    rw [e]
    exact Pl.text_length l win hf
  · rw [answer_err h]
    exact Nat.zero_le _

end Go.Proofs.YtfldcmdhneegmaaDoor

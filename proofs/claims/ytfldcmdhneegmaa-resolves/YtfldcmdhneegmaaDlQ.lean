/-
  PLAIN: a delta's parts and what it is made of; Apply as the program asks it. No program in it.
-/
import Derived.Test.YtfldcmdhneegmaaDlP
namespace Go.Proofs.Ytfldcmdhneegmaa
namespace Fr

theorem parts_framed {sl m : List UInt8} {p q : Nat} (hs : sl.length = 4) (hp : p < 18446744073709551616) (hq : q < 18446744073709551616) : parts (framed (68 :: (sl ++ num p ++ num q ++ m))) = some (sl, p, q, m) := by
  have e1 : (sl ++ num p ++ num q ++ m).drop 4 = num p ++ (num q ++ m) := by
    have : sl ++ num p ++ num q ++ m = sl ++ (num p ++ (num q ++ m)) := by simp
    rw [this, ← hs, List.drop_left]
  have e2 : (sl ++ num p ++ num q ++ m).take 4 = sl := by
    have : sl ++ num p ++ num q ++ m = sl ++ (num p ++ (num q ++ m)) := by simp
    rw [this, ← hs, List.take_left]
  rw [parts_inside, sound_framed]
  simp only []
  unfold inside
  rw [if_neg (by simp; omega), e1, rd_num hp]
  simp only []
  rw [rd_num hq]
  simp only []
  rw [e2]
theorem parts_back {d sl m : List UInt8} {p q : Nat} (h : parts d = some (sl, p, q, m)) : d = framed (68 :: (sl ++ num p ++ num q ++ m)) ∧ sl.length = 4 ∧ p < 18446744073709551616 ∧ q < 18446744073709551616 := by
  rw [parts_inside] at h
  split at h
  · cases h
  · rename_i i hi
    unfold inside at h
    split at h
    · cases h
    · rename_i h4
      split at h
      · cases h
      · rename_i p' r hr
        split at h
        · cases h
        · rename_i q' r' hr'
          simp only [Option.some.injEq, Prod.mk.injEq] at h
          obtain ⟨rfl, rfl, rfl, rfl⟩ := h
          obtain ⟨b1, b2⟩ := rd_back hr
          obtain ⟨b3, b4⟩ := rd_back hr'
          refine ⟨?_, by rw [List.length_take]; omega, b2, b4⟩
          rw [sound_iff.1 hi]
          congr 2
          conv => lhs; rw [← List.take_append_drop 4 i, b1, b3]
          simp
/-- What Apply makes of a state and a delta's parts: an error's number, or the state. -/
def applyIn (a : List UInt8) (s p q : Nat) (m : List UInt8) : List UInt8 × Int :=
  if s ≠ val (last4 a) then ([], 6)
  else if a.length < p ∨ a.length - p < q then ([], 5)
  else if (sound (a.take p ++ m ++ a.drop (a.length - q)) 83).isSome ∧ cp a (a.take p ++ m ++ a.drop (a.length - q)) = p ∧ cq a (a.take p ++ m ++ a.drop (a.length - q)) p = q then (a.take p ++ m ++ a.drop (a.length - q), 0) else ([], 5)
theorem mid_of {a m : List UInt8} {p q : Nat} (hp : p ≤ a.length) (hq : q ≤ a.length - p) : ((a.take p ++ m ++ a.drop (a.length - q)).take ((a.take p ++ m ++ a.drop (a.length - q)).length - q)).drop p = m := by
  have h1 : (a.drop (a.length - q)).length = q := by rw [List.length_drop]; omega
  have h2 : (a.take p).length = p := by rw [List.length_take]; omega
  have h3 : (a.take p ++ m ++ a.drop (a.length - q)).length - q = (a.take p ++ m).length := by rw [List.length_append, h1]; omega
  rw [h3, List.take_left]
  conv => lhs; rw [show p = (a.take p).length from h2.symm]
  conv => lhs; arg 2; rw [h2]
  rw [h2, List.drop_append_of_le_length (by omega)]
  simp
theorem applyOf_in {a d sl m : List UInt8} {p q : Nat} (ha : (sound a 83).isSome = true) (h5 : 5 ≤ a.length) (hal : a.length ≤ 1000000) (h : parts d = some (sl, p, q, m)) : applyOf a d = applyIn a (val sl) p q m := by
  obtain ⟨hd, hsl, hp, hq⟩ := parts_back h
  have hl4 : (last4 a).length = 4 := by unfold last4; rw [List.length_drop]; omega
  unfold applyOf applyIn
  rw [if_pos ha, h]
  simp only []
  by_cases c1 : sl = last4 a
  · have c1' : val sl = val (last4 a) := by rw [c1]
    rw [if_neg (show ¬ (sl ≠ last4 a) from fun h => h c1), if_neg (show ¬ (val sl ≠ val (last4 a)) from fun h => h c1')]
    by_cases c2 : a.length < p ∨ a.length - p < q
    · rw [if_pos c2, if_pos c2]
    · rw [if_neg c2, if_neg c2]
      have hm := mid_of (a := a) (m := m) (p := p) (q := q) (by omega) (by omega)
      generalize a.take p ++ m ++ a.drop (a.length - q) = to at hm ⊢
      have hx : delta a to = d ↔ cp a to = p ∧ cq a to p = q := by
        constructor
        · intro e
          have hcl := cp_le a to
          have hql := cq_le a to (cp a to)
          have e2 : parts (delta a to) = some (last4 a, cp a to, cq a to (cp a to), (to.take (to.length - cq a to (cp a to))).drop (cp a to)) := parts_framed hl4 (by omega) (by omega)
          rw [e, h] at e2
          simp only [Option.some.injEq, Prod.mk.injEq] at e2
          obtain ⟨-, e3, e4, -⟩ := e2
          refine ⟨e3.symm, ?_⟩
          rw [← e3] at e4
          exact e4.symm
        · rintro ⟨e1, e2⟩
          rw [hd]
          unfold delta
          rw [e1, e2, hm, c1]
      simp only [hx]
  · have c1' : val sl ≠ val (last4 a) := fun e => c1 ((val_inj hsl hl4).1 e)
    rw [if_pos c1, if_pos c1']

end Fr
end Go.Proofs.Ytfldcmdhneegmaa

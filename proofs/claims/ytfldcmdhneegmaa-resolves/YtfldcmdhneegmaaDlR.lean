/-
  PLAIN: what stands behind a list of frames.
-/
import Derived.Test.YtfldcmdhneegmaaDlQ
namespace Go.Proofs.Ytfldcmdhneegmaa
namespace Fr
theorem apply_length {a d t : List UInt8} (h : okOf (applyOf a d) = some t) : t.length ≤ a.length + d.length := by
  unfold okOf at h
  split at h
  · rename_i h0
    obtain rfl := Option.some.inj h
    unfold applyOf at h0 ⊢
    split at h0
    · rename_i h1
      rw [if_pos h1]
      cases hp : parts d with
      | none => rw [hp] at h0; simp at h0
      | some x =>
        obtain ⟨s, p, q, m⟩ := x
        rw [hp] at h0
        simp only [] at h0 ⊢
        have hm : m.length ≤ d.length := by
          unfold parts at hp
          split at hp
          · cases hp
          · rename_i i hi
            split at hp
            · cases hp
            · split at hp
              · cases hp
              · rename_i p' r hr
                split at hp
                · cases hp
                · rename_i q' r' hr'
                  simp only [Option.some.injEq, Prod.mk.injEq] at hp
                  obtain ⟨-, -, -, rfl⟩ := hp
                  have e1 := congrArg List.length (rd_back hr).1
                  have e2 := congrArg List.length (rd_back hr').1
                  have e3 := congrArg List.length (sound_iff.1 hi)
                  simp [framed, sum_length] at e1 e2 e3
                  omega
        split at h0
        · cases h0
        · rename_i h2
          rw [if_neg h2]
          split at h0
          · cases h0
          · rename_i h3
            rw [if_neg h3]
            split at h0
            · rename_i h4
              rw [if_pos h4]
              simp
              omega
            · cases h0
    · cases h0
  · cases h
theorem lastOf_mem {f : Nat → Option (List UInt8)} {g : List UInt8 → Option (List UInt8)} {t : List UInt8} : ∀ {i : Nat}, lastOf f g i = some t → ∃ j s, j < i ∧ f j = some s ∧ g s = some t
  | 0, h => by cases h
  | i + 1, h => by
    unfold lastOf at h
    split at h
    · obtain ⟨j, s, hj, hf, hg⟩ := lastOf_mem h
      exact ⟨j, s, by omega, hf, hg⟩
    · rename_i s hs
      split at h
      · obtain ⟨j, s, hj, hf, hg⟩ := lastOf_mem h
        exact ⟨j, s, by omega, hf, hg⟩
      · rename_i t' ht
        obtain rfl := Option.some.inj h
        exact ⟨i, s, by omega, hs, ht⟩
theorem stands_length {fs : List (List UInt8)} {L : Nat} (hL : ∀ f ∈ fs, f.length ≤ L) : ∀ (n i : Nat) (s : List UInt8), stands fs n i = some s → s.length ≤ L * (n + 1) := by
  have hget : ∀ i, (fs.getD i []).length ≤ L := by
    intro i
    by_cases h : i < fs.length
    · have : fs.getD i [] = fs[i] := by simp [h]
      rw [this]
      exact hL _ (List.getElem_mem h)
    · have : fs.getD i [] = [] := by simp [Nat.not_lt.1 h]
      rw [this]; simp
  intro n
  induction n with
  | zero =>
    intro i s h
    unfold stands at h
    split at h
    · obtain rfl := Option.some.inj h
      have := hget i
      omega
    · cases h
  | succ n ih =>
    intro i s h
    unfold stands at h
    split at h
    · obtain rfl := Option.some.inj h
      have := hget i
      have h2 : L * 1 ≤ L * (n + 1 + 1) := Nat.mul_le_mul_left _ (by omega)
      omega
    · obtain ⟨j, s', hj, hf, hg⟩ := lastOf_mem h
      have h1 := ih j s' hf
      have h2 := apply_length hg
      have h3 := hget i
      have : L * (n + 1 + 1) = L * (n + 1) + L := by rw [Nat.mul_add, Nat.mul_one]
      omega
end Fr
end Go.Proofs.Ytfldcmdhneegmaa

/-
  RESOLVING, on plain data: what is kept by places gives what the document's Stands gives.
-/
import Derived.Test.YtfldcmdhneegmaaRsH
import Derived.Test.YtfldcmdhneegmaaDlR
namespace Go.Proofs.Ytfldcmdhneegmaa
open Go.RowKit Go.Lib Go.Shelf

theorem findSome_filter {α β : Type} (q : α → Bool) (f : α → Option β) : ∀ (l : List α), (∀ a ∈ l, q a = false → f a = none) → (l.filter q).findSome? f = l.findSome? f := by
  intro l
  induction l with
  | nil => intro _; rfl
  | cons a r ih =>
    intro h
    have ih' := ih (fun b hb => h b (List.mem_cons_of_mem _ hb))
    cases hq : q a with
    | true =>
      rw [List.filter_cons_of_pos (by simp [hq]), List.findSome?_cons, List.findSome?_cons, ih']
    | false =>
      rw [List.filter_cons_of_neg (by simp [hq]), List.findSome?_cons, h a (List.mem_cons_self ..) hq, ih']
theorem keepRow_find (ps : List (Value × List UInt8)) (c : Value) (x : List UInt8) (g : List UInt8 → Option (List UInt8)) : (keepRow ps c x).reverse.findSome? (fun p => g p.2) = match g x with
    | some t => some t
    | none => ps.reverse.findSome? (fun p => g p.2) := by
  unfold keepRow
  rw [List.reverse_append, List.reverse_singleton, List.singleton_append, List.findSome?_cons]
  cases hg : g x with
  | some t => simp
  | none =>
    simp only []
    rw [← List.filter_reverse]
    refine findSome_filter _ _ _ (fun a _ ha => ?_)
    have : a.2 = x := by simpa using ha
    rw [this, hg]
theorem keepM_at (M : Nat → Nat → List (Value × List UInt8)) (fo : Nat → Option (Value × List UInt8)) (s k : Nat) : ∀ n, keepM M fo n s k = if k < n then (match fo k with
    | none => M s k
    | some (c, x) => if Fr.val (Fr.last4 x) = s then keepRow (M s k) c x else M s k) else M s k := by
  intro n
  induction n with
  | zero => rfl
  | succ n ih =>
    have e : keepM M fo (n + 1) = (match fo n with
      | none => keepM M fo n
      | some (c, x) => updM (keepM M fo n) (Fr.val (Fr.last4 x)) n (keepRow (keepM M fo n (Fr.val (Fr.last4 x)) n) c x)) := rfl
    rw [e]
    by_cases hkn : k = n
    · subst hkn
      rw [if_neg (Nat.lt_irrefl _)] at ih
      rw [if_pos (Nat.lt_succ_self _)]
      cases hf : fo k with
      | none => exact ih
      | some y =>
        obtain ⟨c, x⟩ := y
        simp only []
        unfold updM
        by_cases hs : Fr.val (Fr.last4 x) = s
        · rw [if_pos ⟨hs.symm, rfl⟩, if_pos hs, hs, ih]
        · rw [if_neg (fun h => hs h.1.symm), if_neg hs, ih]
    · have e2 : (if k < n + 1 then (match fo k with
        | none => M s k
        | some (c, x) => if Fr.val (Fr.last4 x) = s then keepRow (M s k) c x else M s k) else M s k) = keepM M fo n s k := by
        rw [ih]
        by_cases hlt : k < n
        · rw [if_pos hlt, if_pos (by omega)]
        · rw [if_neg hlt, if_neg (by omega)]
      rw [e2]
      cases hf : fo n with
      | none => rfl
      | some y =>
        obtain ⟨c, x⟩ := y
        simp only []
        unfold updM
        rw [if_neg (fun h => hkn h.2)]
theorem keepRow_len (ps : List (Value × List UInt8)) (c : Value) (x : List UInt8) : (keepRow ps c x).length ≤ ps.length + 1 := by
  unfold keepRow
  rw [List.length_append]
  have := List.length_filter_le (fun p : Value × List UInt8 => !decide (p.2 = x)) ps
  simp only [List.length_cons, List.length_nil]
  omega
theorem keepM_len {M : Nat → Nat → List (Value × List UInt8)} {fo : Nat → Option (Value × List UInt8)} {b : Nat} (h : ∀ s k, (M s k).length ≤ b) (n s k : Nat) : (keepM M fo n s k).length ≤ b + 1 := by
  rw [keepM_at]
  have := h s k
  split
  · cases fo k with
    | none => simp only []; omega
    | some y =>
      obtain ⟨c, x⟩ := y
      simp only []
      split
      · have := keepRow_len (M s k) c x; omega
      · omega
  · omega

namespace Fr
theorem applyOf_sound {a d t : List UInt8} (h : okOf (applyOf a d) = some t) : (sound t 83).isSome = true := by
  unfold okOf at h
  split at h
  · rename_i h0
    obtain rfl := Option.some.inj h
    unfold applyOf at h0 ⊢
    split at h0
    · rename_i h1
      rw [if_pos h1]
      cases hp : parts d with
      | none => rw [hp] at h0; simp at h0
      | some x =>
        obtain ⟨s, p, q, m⟩ := x
        rw [hp] at h0
        simp only [] at h0 ⊢
        split at h0
        · cases h0
        · rename_i h2
          rw [if_neg h2]
          split at h0
          · cases h0
          · rename_i h3
            rw [if_neg h3]
            split at h0
            · rename_i h4
              rw [if_pos h4]
              exact h4.1
            · cases h0
    · cases h0
  · cases h
theorem stands_sound {fs : List (List UInt8)} : ∀ (n i : Nat) (s : List UInt8), stands fs n i = some s → (sound s 83).isSome = true := by
  intro n
  cases n with
  | zero =>
    intro i s h
    unfold stands at h
    split at h
    · rename_i h0
      obtain rfl := Option.some.inj h
      exact h0
    · cases h
  | succ n =>
    intro i s h
    unfold stands at h
    split at h
    · rename_i h0
      obtain rfl := Option.some.inj h
      exact h0
    · obtain ⟨j, s', -, -, hg⟩ := lastOf_mem h
      exact applyOf_sound hg
theorem lastOf_congr {f : Nat → Option (List UInt8)} {g g' : List UInt8 → Option (List UInt8)} (h : ∀ j s, f j = some s → g s = g' s) : ∀ i, lastOf f g i = lastOf f g' i := by
  intro i
  induction i with
  | zero => rfl
  | succ i ih =>
    unfold lastOf
    cases hf : f i with
    | none => exact ih
    | some s =>
      simp only []
      rw [h i s hf, ih]
theorem lastOf_none (f : Nat → Option (List UInt8)) : ∀ i, lastOf f (fun _ => none) i = none := by
  intro i
  induction i with
  | zero => rfl
  | succ i ih =>
    unfold lastOf
    cases hf : f i with
    | none => exact ih
    | some s => exact ih
end Fr

/-- What is kept, once i frames are seen. -/
def Inv (fs : List (List UInt8)) (i : Nat) (M : Nat → Nat → List (Value × List UInt8)) : Prop :=
  (∀ s k, (M s k).length ≤ i) ∧ ∀ s k, k < 5 → ∀ g : List UInt8 → Option (List UInt8), (∀ x, Fr.val (Fr.last4 x) ≠ s → g x = none) → (M s k).reverse.findSome? (fun p => g p.2) = Fr.lastOf (Fr.stands fs k) g i
theorem Inv.zero (fs : List (List UInt8)) : Inv fs 0 (fun _ _ => []) := ⟨fun _ _ => Nat.le_refl _, fun _ _ _ _ _ => rfl⟩
theorem Inv.succ {fs : List (List UInt8)} {i : Nat} {M : Nat → Nat → List (Value × List UInt8)} (h : Inv fs i M) {fo : Nat → Option (Value × List UInt8)} (hfo : ∀ k, k < 5 → (fo k).map (·.2) = Fr.stands fs k i) : Inv fs (i + 1) (keepM M fo 5) := by
  refine ⟨fun s k => keepM_len h.1 5 s k, fun s k hk g hg => ?_⟩
  rw [keepM_at, if_pos hk]
  have e := hfo k hk
  have ih := h.2 s k hk g hg
  show _ = (match Fr.stands fs k i with
    | none => Fr.lastOf (Fr.stands fs k) g i
    | some s => match g s with
      | none => Fr.lastOf (Fr.stands fs k) g i
      | some t => some t)
  rw [← e]
  cases hf : fo k with
  | none => exact ih
  | some y =>
    obtain ⟨c, x⟩ := y
    simp only [Option.map_some]
    by_cases hs : Fr.val (Fr.last4 x) = s
    · rw [if_pos hs, keepRow_find, ih]
      cases g x <;> rfl
    · rw [if_neg hs, hg x hs, ih]
theorem Inv.stOf {fs : List (List UInt8)} {i : Nat} {M : Nat → Nat → List (Value × List UInt8)} (h : Inv fs i M) (hL : ∀ f ∈ fs, f.length ≤ 65536) {f : List UInt8} (hf : fs.getD i [] = f) (k : Nat) (hk : k < 5) : stOf (plainM M) f k = Fr.stands fs k i := by
  unfold Go.Proofs.Ytfldcmdhneegmaa.stOf
  by_cases hso : (Fr.sound f 83).isSome = true
  · rw [if_pos hso]
    cases k with
    | zero => unfold Fr.stands; rw [hf, if_pos hso]
    | succ k => unfold Fr.stands; rw [hf, if_pos hso]
  · rw [if_neg hso]
    cases k with
    | zero =>
      unfold Fr.stands
      rw [hf, if_neg hso]
      cases Fr.parts f with
      | none => rfl
      | some y => rfl
    | succ k =>
      unfold Fr.stands
      rw [hf, if_neg hso]
      cases hp : Fr.parts f with
      | none =>
        simp only []
        have : (fun s => Fr.okOf (Fr.applyOf s f)) = fun _ => none := by
          funext s
          have e : Fr.applyOf s f = ([], 5) := by
            unfold Fr.applyOf
            rw [hp]
            split <;> rfl
          rw [e]
          rfl
        rw [this, Fr.lastOf_none]
      | some y =>
        obtain ⟨sl, p, q, m⟩ := y
        simp only []
        unfold plainM
        rw [← findSome_plain, h.2 (Fr.val sl) k (by omega) (ledOf (Fr.val sl) p q m) (fun x hx => by
          unfold ledOf Fr.applyIn Fr.okOf
          rw [if_pos (fun e => hx e.symm)]
          rfl)]
        refine Fr.lastOf_congr (fun j s hs => ?_) i
        have h1 := Fr.stands_sound k j s hs
        have h2 := Fr.stands_length hL k j s hs
        have h3 : 65536 * (k + 1) ≤ 65536 * 5 := Nat.mul_le_mul_left _ (by omega)
        unfold ledOf
        rw [Fr.applyOf_in h1 (sound_four h1) (by omega) hp]
theorem Inv.bounds {fs : List (List UInt8)} {i : Nat} {M : Nat → Nat → List (Value × List UInt8)} (h : Inv fs i M) (hL : ∀ f ∈ fs, f.length ≤ 65536) {f : List UInt8} (hf : fs.getD i [] = f) (k : Nat) (t : List UInt8) (hk : k < 5) (ht : Go.Proofs.Ytfldcmdhneegmaa.stOf (plainM M) f k = some t) : 5 ≤ t.length ∧ t.length ≤ 400000 := by
  rw [h.stOf hL hf k hk] at ht
  have h1 := Fr.stands_sound k i t ht
  have h2 := Fr.stands_length hL k i t ht
  have h3 : 65536 * (k + 1) ≤ 65536 * 5 := Nat.mul_le_mul_left _ (by omega)
  exact ⟨sound_four h1, by omega⟩

end Go.Proofs.Ytfldcmdhneegmaa

/-
  PLAIN: deltas: what two lists begin and end alike with, Delta, Apply, what frames of a list stand for. No program in it.
-/
import Derived.Test.YtfldcmdhneegmaaFrP
namespace Go.Proofs.Ytfldcmdhneegmaa
namespace Fr

/-- With how many bytes two lists begin alike. -/
def cp : List UInt8 → List UInt8 → Nat
  | a :: x, b :: y => if a = b then cp x y + 1 else 0
  | _, _ => 0
theorem cp_le : ∀ a b : List UInt8, cp a b ≤ a.length ∧ cp a b ≤ b.length
  | [], _ => ⟨Nat.zero_le _, Nat.zero_le _⟩
  | _ :: _, [] => ⟨Nat.zero_le _, Nat.zero_le _⟩
  | a :: x, b :: y => by
    unfold cp
    split
    · have := cp_le x y
      simp; omega
    · exact ⟨Nat.zero_le _, Nat.zero_le _⟩
theorem cp_stop : ∀ (a b : List UInt8) (p : Nat), a.take p = b.take p → p ≤ a.length → p ≤ b.length → (∀ (h1 : p < a.length) (h2 : p < b.length), a[p] ≠ b[p]) → cp a b = p
  | [], b, p, _, h1, _, _ => by
    have : p = 0 := by simpa using h1
    subst this; unfold cp; cases b <;> rfl
  | _ :: _, [], p, _, _, h2, _ => by
    have : p = 0 := by simpa using h2
    subst this; rfl
  | a :: x, b :: y, 0, _, _, _, h => by
    have hn : a ≠ b := h (by simp) (by simp)
    unfold cp
    rw [if_neg hn]
  | a :: x, b :: y, p + 1, ht, h1, h2, h => by
    rw [List.take_succ_cons, List.take_succ_cons] at ht
    obtain ⟨rfl, ht2⟩ := List.cons.inj ht
    unfold cp
    rw [if_pos rfl, cp_stop x y p ht2 (by simpa using h1) (by simpa using h2)]
    intro h3 h4
    exact h (by simpa using h3) (by simpa using h4)
theorem cp_take : ∀ a b : List UInt8, a.take (cp a b) = b.take (cp a b)
  | [], b => by unfold cp; cases b <;> rfl
  | _ :: _, [] => rfl
  | a :: x, b :: y => by
    unfold cp
    split
    · rename_i h
      subst h
      rw [List.take_succ_cons, List.take_succ_cons, cp_take x y]
    · rfl
/-- With how many bytes what is left of both ends alike. -/
def cq (a b : List UInt8) (p : Nat) : Nat := cp (a.drop p).reverse (b.drop p).reverse
theorem cq_le (a b : List UInt8) (p : Nat) : cq a b p ≤ a.length - p ∧ cq a b p ≤ b.length - p := by
  have := cp_le (a.drop p).reverse (b.drop p).reverse
  simpa [cq] using this
theorem drop_rev (a : List UInt8) (p q : Nat) (h : q < a.length - p) : (a.drop p).reverse[q]'(by simp; omega) = a[a.length - 1 - q]'(by omega) := by
  rw [List.getElem_reverse]
  simp only [List.length_drop, List.getElem_drop]
  congr 1
  omega
def last4 (a : List UInt8) : List UInt8 := a.drop (a.length - 4)
def delta (a b : List UInt8) : List UInt8 :=
  framed (68 :: (last4 a ++ num (cp a b) ++ num (cq a b (cp a b)) ++ (b.take (b.length - cq a b (cp a b))).drop (cp a b)))
/-- Delta: an error's number, or the delta. -/
def deltaOf (a b : List UInt8) : List UInt8 × Int :=
  if (sound a 83).isSome ∧ (sound b 83).isSome then (delta a b, 0) else ([], 5)
/-- What is in a delta, behind its kind: the sum, two numbers, bytes. -/
def inside (i : List UInt8) : Option (List UInt8 × Nat × Nat × List UInt8) :=
  if i.length < 4 then none else
    match rd (i.drop 4) with
    | none => none
    | some (p, r) =>
      match rd r with
      | none => none
      | some (q, r') => some (i.take 4, p, q, r')
/-- What is in a delta: the sum, two numbers, bytes. -/
def parts (l : List UInt8) : Option (List UInt8 × Nat × Nat × List UInt8) :=
  match sound l 68 with
  | none => none
  | some i => if i.length < 4 then none else
    match rd (i.drop 4) with
    | none => none
    | some (p, r) =>
      match rd r with
      | none => none
      | some (q, r') => some (i.take 4, p, q, r')
theorem parts_inside (l : List UInt8) : parts l = match sound l 68 with
    | none => none
    | some i => inside i := rfl
/-- Apply: an error's number, or what comes of it. -/
def applyOf (a d : List UInt8) : List UInt8 × Int :=
  if (sound a 83).isSome then
    match parts d with
    | none => ([], 5)
    | some (s, p, q, m) =>
      if s ≠ last4 a then ([], 6)
      else if a.length < p ∨ a.length - p < q then ([], 5)
      else if (sound (a.take p ++ m ++ a.drop (a.length - q)) 83).isSome ∧ delta a (a.take p ++ m ++ a.drop (a.length - q)) = d then (a.take p ++ m ++ a.drop (a.length - q), 0) else ([], 5)
  else ([], 5)
/-- The last j below i for which f and then g give something. -/
def lastOf (f : Nat → Option (List UInt8)) (g : List UInt8 → Option (List UInt8)) : Nat → Option (List UInt8)
  | 0 => none
  | j + 1 =>
    match f j with
    | none => lastOf f g j
    | some s =>
      match g s with
      | none => lastOf f g j
      | some t => some t
def okOf (x : List UInt8 × Int) : Option (List UInt8) := if x.2 = 0 then some x.1 else none
/-- The state for which frame i stands within n deltas. -/
def stands (fs : List (List UInt8)) : Nat → Nat → Option (List UInt8)
  | 0, i => if (sound (fs.getD i []) 83).isSome then some (fs.getD i []) else none
  | n + 1, i => if (sound (fs.getD i []) 83).isSome then some (fs.getD i []) else lastOf (stands fs n) (fun s => okOf (applyOf s (fs.getD i []))) i
def resolveTo (fs : List (List UInt8)) : Nat → List UInt8 × Int
  | 0 => ([], -1)
  | i + 1 =>
    match stands fs 4 i with
    | some s => (s, i)
    | none => resolveTo fs i
def resolve (fs : List (List UInt8)) : List UInt8 × Int := resolveTo fs fs.length

end Fr
end Go.Proofs.Ytfldcmdhneegmaa

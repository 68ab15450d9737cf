/-
  PLAIN: what ends with an event, and what is under way: as the document's engine looks for it anew each time, and step by step.
-/
import Derived.Test.YtfldcmdhneegmaaEngP
namespace Go.Proofs.Ytfldcmdhneegmaa
namespace En

structure Pat where
  steps : List (Int × Bool)
  win : Int

/-- How far a moment lies behind another: numbers from 0 to 2^64 - 1. -/
def far (t first : Int) : Int := (t - first) % 18446744073709551616
theorem far_eq {t first : Int} (h0 : first ≤ t) (h1 : -9223372036854775808 ≤ first) (h2 : t ≤ 9223372036854775807) : far t first = t - first := by
  unfold far; omega

def kindAt (P : Pat) (s : Nat) : Option Int := (P.steps[s]?).map (·.1)
def plusAt (P : Pat) (s : Nat) : Bool := ((P.steps[s]?).map (·.2)).getD false
/-- Can a run at a step go on? -/
def goes (P : Pat) (s : Nat) : Bool := decide (s + 1 < P.steps.length) || plusAt P s

def ext (r : Rn) (ev : Ev) (step : Nat) : Rn := { step := step, offs := r.offs ++ [ev.off], first := r.first }
/-- Runs, each with one event more, as far as they stand within the window, at a step. -/
def longer (P : Pat) (l : List Rn) (ev : Ev) (step : Nat) : List Rn := (l.filter fun r => decide (far ev.time r.first ≤ P.win)).map fun r => ext r ev step

/-- From j - 1 down to 0: what ends with those events at step s, longer by ev; till one lies too far back. -/
def back (P : Pat) (D : List Ev) (E : Nat → Nat → List Rn) (ev : Ev) (step s : Nat) : Nat → List Rn → List Rn
  | 0, l => l
  | j + 1, l => match D[j]? with
    | none => l
    | some d => if far ev.time d.time > P.win then l else back P D E ev step s j (puts l (longer P (E s j) ev step))
/-- The runs of old at a step, each longer by ev. -/
def fromOld (P : Pat) (old : List Rn) (ev : Ev) (step s : Nat) (l : List Rn) : List Rn :=
  old.foldl (fun l r => if r.step = s then puts l (longer P [r] ev step) else l) l

/-- The runs at a step that end with event k of those that were processed (f: more than k). -/
def endsF (P : Pat) (D : List Ev) (old : List Rn) : Nat → Nat → Nat → List Rn
  | 0, _, _ => []
  | f + 1, step, k => match D[k]? with
    | none => []
    | some ev => if kindAt P step ≠ some ev.kind then [] else
      let l0 : List Rn := if step = 0 then [{ step := 0, offs := [ev.off], first := ev.time }] else []
      let l1 := if 0 < step then fromOld P old ev step (step - 1) (back P D (endsF P D old f) ev step (step - 1) k l0) else l0
      if plusAt P step then fromOld P old ev step step (back P D (endsF P D old f) ev step step k l1) else l1
def ends (P : Pat) (D : List Ev) (old : List Rn) (step k : Nat) : List Rn := endsF P D old (k + 1) step k

/-! ### what is asked of the events and of the runs that were under way at first -/
structure Ctx (P : Pat) (D : List Ev) (old : List Rn) (ψ : Int → Int) : Prop where
  w0 : 0 ≤ P.win
  w1 : P.win < 9223372036854775808
  ev : ∀ d ∈ D, d.time = ψ d.off
  lo : ∀ d ∈ D, -9223372036854775808 ≤ d.time
  hi : ∀ d ∈ D, d.time ≤ 9223372036854775807
  mono : ∀ (i j : Nat) (a b : Ev), i ≤ j → D[i]? = some a → D[j]? = some b → a.time ≤ b.time
  det : ∀ r ∈ old, Det ψ r
  olo : ∀ r ∈ old, -9223372036854775808 ≤ r.first
  ohi : ∀ r ∈ old, ∀ d ∈ D, r.first ≤ d.time

/-- What is true of every run that ends with event d. -/
structure Good (ψ : Int → Int) (d : Ev) (step : Nat) (r : Rn) : Prop where
  det : Det ψ r
  step : r.step = step
  lo : -9223372036854775808 ≤ r.first
  hi : r.first ≤ d.time

theorem det_ext {ψ : Int → Int} {r : Rn} (h : Det ψ r) (ev : Ev) (step : Nat) : Det ψ (ext r ev step) := by
  obtain ⟨h1, h2⟩ := h
  cases hr : r.offs with
  | nil => exact absurd hr h1
  | cons x t => exact ⟨by simp [ext], by rw [hr] at h2; simpa [ext, hr] using h2⟩

theorem mem_longer {P : Pat} {l : List Rn} {ev : Ev} {step : Nat} {x : Rn} : x ∈ longer P l ev step ↔ ∃ q ∈ l, far ev.time q.first ≤ P.win ∧ x = ext q ev step := by
  unfold longer
  rw [List.mem_map]
  constructor
  · rintro ⟨q, hq, rfl⟩
    obtain ⟨h1, h2⟩ := List.mem_filter.1 hq
    exact ⟨q, h1, of_decide_eq_true h2, rfl⟩
  · rintro ⟨q, h1, h2, rfl⟩
    exact ⟨q, List.mem_filter.2 ⟨h1, decide_eq_true h2⟩, rfl⟩

section
variable {P : Pat} {D : List Ev} {old : List Rn} {ψ : Int → Int}

/-- 'back' in terms of members: no run of an event that lies too far back would be within the window. -/
theorem mem_back (C : Ctx P D old ψ) (E : Nat → Nat → List Rn) (k : Nat) (ev : Ev) (hev : D[k]? = some ev) (step s : Nat) (j : Nat) (hj : j ≤ k)
    (hE : ∀ i d, i < j → D[i]? = some d → ∀ r ∈ E s i, Good ψ d s r) (l : List Rn) (hl : ∀ y ∈ l, Det ψ y) (x : Rn) :
    (∀ y ∈ back P D E ev step s j l, Det ψ y) ∧ (x ∈ back P D E ev step s j l ↔ x ∈ l ∨ ∃ i, i < j ∧ ∃ q ∈ E s i, far ev.time q.first ≤ P.win ∧ x = ext q ev step) := by
  induction j generalizing l with
  | zero => exact ⟨hl, by simp [back]⟩
  | succ j ih =>
    have hkl : k < D.length := by
      rcases Nat.lt_or_ge k D.length with h | h
      · exact h
      · rw [List.getElem?_eq_none h] at hev; cases hev
    obtain ⟨d, hd⟩ : ∃ d, D[j]? = some d := ⟨D[j]'(by omega), List.getElem?_eq_getElem (by omega)⟩
    unfold back
    rw [hd]
    simp only []
    have hdm : d ∈ D := List.mem_of_getElem? hd
    have hem : ev ∈ D := List.mem_of_getElem? hev
    have hle := C.mono j k d ev (by omega) hd hev
    have hfd : far ev.time d.time = ev.time - d.time := far_eq hle (C.lo d hdm) (C.hi ev hem)
    have hgood := hE j d (by omega) hd
    by_cases hf : far ev.time d.time > P.win
    · rw [if_pos hf]
      refine ⟨hl, ⟨Or.inl, ?_⟩⟩
      rintro (h | ⟨i, hi, q, hq, hw, rfl⟩)
      · exact h
      · exfalso
        obtain ⟨d', hd'⟩ : ∃ d', D[i]? = some d' := ⟨D[i]'(by omega), List.getElem?_eq_getElem (by omega)⟩
        have hg := hE i d' hi hd' q hq
        have h1 := C.mono i j d' d (by omega) hd' hd
        have h2 := hg.hi
        have hfq : far ev.time q.first = ev.time - q.first := far_eq (by omega) hg.lo (C.hi ev hem)
        omega
    · rw [if_neg hf]
      have hl' : ∀ y ∈ puts l (longer P (E s j) ev step), Det ψ y := by
        intro y hy
        have hm : ∀ y ∈ longer P (E s j) ev step, Det ψ y := by
          intro y hy
          obtain ⟨q, hq, _, rfl⟩ := mem_longer.1 hy
          exact det_ext (hgood q hq).det ev step
        rcases (mem_puts hl hm).1 hy with h | h
        · exact hl y h
        · exact hm y h
      obtain ⟨g1, g2⟩ := ih (by omega) (fun i d hi => hE i d (by omega)) _ hl'
      refine ⟨g1, ?_⟩
      rw [g2, mem_puts hl (by
        intro y hy
        obtain ⟨q, hq, _, rfl⟩ := mem_longer.1 hy
        exact det_ext (hgood q hq).det ev step), mem_longer]
      constructor
      · rintro ((h | ⟨q, h1, h2, h3⟩) | ⟨i, hi, q, h1, h2, h3⟩)
        · exact Or.inl h
        · exact Or.inr ⟨j, by omega, q, h1, h2, h3⟩
        · exact Or.inr ⟨i, by omega, q, h1, h2, h3⟩
      · rintro (h | ⟨i, hi, q, h1, h2, h3⟩)
        · exact Or.inl (Or.inl h)
        · by_cases e : i = j
          · subst e; exact Or.inl (Or.inr ⟨q, h1, h2, h3⟩)
          · exact Or.inr ⟨i, by omega, q, h1, h2, h3⟩

theorem mem_fromOld (ev : Ev) (step s : Nat) (os : List Rn) (ho : ∀ r ∈ os, Det ψ r) (l : List Rn) (hl : ∀ y ∈ l, Det ψ y) (x : Rn) :
    (∀ y ∈ fromOld P os ev step s l, Det ψ y) ∧ (x ∈ fromOld P os ev step s l ↔ x ∈ l ∨ ∃ q ∈ os, q.step = s ∧ far ev.time q.first ≤ P.win ∧ x = ext q ev step) := by
  induction os generalizing l with
  | nil => exact ⟨hl, by simp [fromOld]⟩
  | cons r os ih =>
    have hr := ho r List.mem_cons_self
    have hm : ∀ y ∈ longer P [r] ev step, Det ψ y := by
      intro y hy
      obtain ⟨q, hq, _, rfl⟩ := mem_longer.1 hy
      rw [List.mem_singleton.1 hq]
      exact det_ext hr ev step
    by_cases e : r.step = s
    · have hl' : ∀ y ∈ puts l (longer P [r] ev step), Det ψ y := by
        intro y hy
        rcases (mem_puts hl hm).1 hy with h | h
        · exact hl y h
        · exact hm y h
      obtain ⟨g1, g2⟩ := ih (fun q hq => ho q (List.mem_cons_of_mem _ hq)) _ hl'
      have ee : fromOld P (r :: os) ev step s l = fromOld P os ev step s (puts l (longer P [r] ev step)) := by
        unfold fromOld; rw [List.foldl_cons, if_pos e]
      rw [ee]
      refine ⟨g1, ?_⟩
      rw [g2, mem_puts hl hm, mem_longer]
      constructor
      · rintro ((h | ⟨q, h1, h2, h3⟩) | ⟨q, h1, h2, h3, h4⟩)
        · exact Or.inl h
        · rw [List.mem_singleton.1 h1] at h2 h3
          exact Or.inr ⟨r, List.mem_cons_self, e, h2, h3⟩
        · exact Or.inr ⟨q, List.mem_cons_of_mem _ h1, h2, h3, h4⟩
      · rintro (h | ⟨q, h1, h2, h3, h4⟩)
        · exact Or.inl (Or.inl h)
        · rcases List.mem_cons.1 h1 with rfl | h1
          · exact Or.inl (Or.inr ⟨q, List.mem_singleton.2 rfl, h3, h4⟩)
          · exact Or.inr ⟨q, h1, h2, h3, h4⟩
    · obtain ⟨g1, g2⟩ := ih (fun q hq => ho q (List.mem_cons_of_mem _ hq)) l hl
      have ee : fromOld P (r :: os) ev step s l = fromOld P os ev step s l := by
        unfold fromOld; rw [List.foldl_cons, if_neg e]
      rw [ee]
      refine ⟨g1, ?_⟩
      rw [g2]
      constructor
      · rintro (h | ⟨q, h1, h2⟩)
        · exact Or.inl h
        · exact Or.inr ⟨q, List.mem_cons_of_mem _ h1, h2⟩
      · rintro (h | ⟨q, h1, h2, h3⟩)
        · exact Or.inl h
        · rcases List.mem_cons.1 h1 with rfl | h1
          · exact absurd h2 e
          · exact Or.inr ⟨q, h1, h2, h3⟩

end
end En
end Go.Proofs.Ytfldcmdhneegmaa

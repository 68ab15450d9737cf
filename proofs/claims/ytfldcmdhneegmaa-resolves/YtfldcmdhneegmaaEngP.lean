/-
  PLAIN: the document's own engine (package spotterref) on plain data: events, runs, what ends with an event, what is under way. No program in it.
-/
import Derived.KernelRfl
namespace Go.Proofs.Ytfldcmdhneegmaa
namespace En

structure Ev where
  off : Int
  kind : Int
  time : Int
structure Rn where
  step : Nat
  offs : List Int
  first : Int

/-- Does a list go ahead of another? -/
def before : List Int → List Int → Bool
  | [], [] => false
  | [], _ :: _ => true
  | _ :: _, [] => false
  | x :: a, y :: b => if x = y then before a b else decide (x < y)

theorem before_irrefl (a : List Int) : before a a = false := by
  induction a with
  | nil => rfl
  | cons x a ih => simp [before, ih]
theorem before_trans {a b c : List Int} (h1 : before a b = true) (h2 : before b c = true) : before a c = true := by
  induction a generalizing b c with
  | nil =>
    cases b with
    | nil => cases h1
    | cons y b =>
      cases c with
      | nil => cases h2
      | cons z c => rfl
  | cons x a ih =>
    cases b with
    | nil => cases h1
    | cons y b =>
      cases c with
      | nil => cases h2
      | cons z c =>
        unfold before at h1 h2 ⊢
        by_cases e1 : x = y
        · subst e1
          rw [if_pos rfl] at h1
          by_cases e2 : x = z
          · rw [if_pos e2] at h2 ⊢
            exact ih h1 h2
          · rw [if_neg e2] at h2 ⊢
            exact h2
        · rw [if_neg e1] at h1
          have l1 := of_decide_eq_true h1
          by_cases e2 : y = z
          · subst e2
            rw [if_neg e1]
            exact h1
          · rw [if_neg e2] at h2
            have l2 := of_decide_eq_true h2
            rw [if_neg (by omega)]
            exact decide_eq_true (by omega)
theorem before_total {a b : List Int} (h : a ≠ b) (h1 : before a b = false) : before b a = true := by
  induction a generalizing b with
  | nil =>
    cases b with
    | nil => exact absurd rfl h
    | cons y b => cases h1
  | cons x a ih =>
    cases b with
    | nil => rfl
    | cons y b =>
      unfold before at h1 ⊢
      by_cases e : x = y
      · subst e
        rw [if_pos rfl] at h1 ⊢
        exact ih (fun e => h (by rw [e])) h1
      · rw [if_neg e] at h1
        rw [if_neg (Ne.symm e)]
        have := of_decide_eq_false h1
        exact decide_eq_true (by omega)

/-- Does a run go ahead of another: by their lists, then by their steps. -/
def lt (r s : Rn) : Bool := before r.offs s.offs || (decide (r.offs = s.offs) && decide (r.step < s.step))
def sameKey (r s : Rn) : Bool := decide (r.offs = s.offs) && decide (r.step = s.step)

theorem sameKey_iff {r s : Rn} : sameKey r s = true ↔ r.offs = s.offs ∧ r.step = s.step := by simp [sameKey]
theorem lt_irrefl (r : Rn) : lt r r = false := by simp [lt, before_irrefl]
theorem lt_trans {a b c : Rn} (h1 : lt a b = true) (h2 : lt b c = true) : lt a c = true := by
  simp only [lt, Bool.or_eq_true, Bool.and_eq_true, decide_eq_true_eq] at h1 h2 ⊢
  rcases h1 with h1 | ⟨h1, h1'⟩
  · rcases h2 with h2 | ⟨h2, _⟩
    · exact Or.inl (before_trans h1 h2)
    · left; rw [← h2]; exact h1
  · rcases h2 with h2 | ⟨h2, h2'⟩
    · left; rw [h1]; exact h2
    · right; exact ⟨h1.trans h2, by omega⟩
theorem lt_total {a b : Rn} (h : sameKey a b = false) (h1 : lt a b = false) : lt b a = true := by
  simp only [lt, sameKey, Bool.or_eq_false_iff, Bool.and_eq_false_iff, decide_eq_false_iff_not] at h h1
  obtain ⟨hb, hs⟩ := h1
  by_cases e : a.offs = b.offs
  · have h3 : ¬ a.step = b.step := h.elim (fun h => absurd e h) id
    have h4 : ¬ a.step < b.step := hs.elim (fun h => absurd e h) id
    simp [lt, e]
    right; omega
  · simp [lt, before_total e hb]

/-- A run into runs that are in their order; one that is there stays. -/
def put : List Rn → Rn → List Rn
  | [], r => [r]
  | x :: t, r => if sameKey x r then x :: t else if lt x r then x :: put t r else r :: x :: t
def puts (l : List Rn) (m : List Rn) : List Rn := m.foldl put l

/-- In their order, no two the same. -/
def Ord : List Rn → Prop
  | [] => True
  | x :: t => (∀ y ∈ t, lt x y = true) ∧ Ord t

theorem mem_put_sub {l : List Rn} {r x : Rn} (h : x ∈ put l r) : x ∈ l ∨ x = r := by
  induction l with
  | nil => right; simpa [put] using h
  | cons y t ih =>
    unfold put at h
    split at h
    · exact Or.inl h
    · split at h
      · rcases List.mem_cons.1 h with rfl | h
        · exact Or.inl List.mem_cons_self
        · rcases ih h with h | h
          · exact Or.inl (List.mem_cons_of_mem _ h)
          · exact Or.inr h
      · rcases List.mem_cons.1 h with rfl | h
        · exact Or.inr rfl
        · exact Or.inl h
theorem mem_put_old {l : List Rn} {r x : Rn} (h : x ∈ l) : x ∈ put l r := by
  induction l with
  | nil => cases h
  | cons y t ih =>
    unfold put
    split
    · exact h
    · split
      · rcases List.mem_cons.1 h with rfl | h
        · exact List.mem_cons_self
        · exact List.mem_cons_of_mem _ (ih h)
      · exact List.mem_cons_of_mem _ h
/-- The new one is there, or one of its key. -/
theorem mem_put_new (l : List Rn) (r : Rn) : ∃ x ∈ put l r, sameKey x r = true ∧ (x = r ∨ x ∈ l) := by
  induction l with
  | nil => exact ⟨r, by simp [put], by simp [sameKey], Or.inl rfl⟩
  | cons y t ih =>
    unfold put
    split
    · rename_i h
      exact ⟨y, List.mem_cons_self, h, Or.inr List.mem_cons_self⟩
    · split
      · obtain ⟨x, h1, h2, h3⟩ := ih
        exact ⟨x, List.mem_cons_of_mem _ h1, h2, h3.elim Or.inl (fun h => Or.inr (List.mem_cons_of_mem _ h))⟩
      · exact ⟨r, List.mem_cons_self, by simp [sameKey], Or.inl rfl⟩
theorem ord_put {l : List Rn} {r : Rn} (h : Ord l) : Ord (put l r) := by
  induction l with
  | nil => exact ⟨by simp, trivial⟩
  | cons y t ih =>
    obtain ⟨h1, h2⟩ := h
    unfold put
    split
    · exact ⟨h1, h2⟩
    · rename_i hk
      split
      · rename_i hl
        refine ⟨fun x hx => ?_, ih h2⟩
        rcases mem_put_sub hx with hx | rfl
        · exact h1 x hx
        · exact hl
      · rename_i hl
        have hr : lt r y = true := lt_total (by simpa using hk) (by simpa using hl)
        refine ⟨fun x hx => ?_, h1, h2⟩
        rcases List.mem_cons.1 hx with rfl | hx
        · exact hr
        · exact lt_trans hr (h1 x hx)

/-- Of one key there is one run: its first moment hangs on its first offset. -/
def Det (ψ : Int → Int) (r : Rn) : Prop := r.offs ≠ [] ∧ r.first = ψ (r.offs.headD 0)
theorem det_eq {ψ : Int → Int} {r s : Rn} (h1 : Det ψ r) (h2 : Det ψ s) (hk : sameKey r s = true) : r = s := by
  obtain ⟨e1, e2⟩ := sameKey_iff.1 hk
  have e3 : r.first = s.first := by rw [h1.2, h2.2, e1]
  cases r; cases s
  simp_all

theorem mem_put {ψ : Int → Int} {l : List Rn} {r x : Rn} (hl : ∀ y ∈ l, Det ψ y) (hr : Det ψ r) : x ∈ put l r ↔ x ∈ l ∨ x = r := by
  constructor
  · exact mem_put_sub
  · rintro (h | rfl)
    · exact mem_put_old h
    · obtain ⟨y, h1, h2, h3⟩ := mem_put_new l x
      have hy : Det ψ y := h3.elim (fun e => by rw [e]; exact hr) (hl y)
      rw [det_eq hy hr h2] at h1
      exact h1
theorem mem_puts {ψ : Int → Int} {l m : List Rn} {x : Rn} (hl : ∀ y ∈ l, Det ψ y) (hm : ∀ y ∈ m, Det ψ y) : x ∈ puts l m ↔ x ∈ l ∨ x ∈ m := by
  induction m generalizing l with
  | nil => simp [puts]
  | cons r m ih =>
    have hr := hm r List.mem_cons_self
    have hl' : ∀ y ∈ put l r, Det ψ y := fun y hy => by
      rcases mem_put_sub hy with h | rfl
      · exact hl y h
      · exact hr
    show x ∈ puts (put l r) m ↔ _
    rw [ih hl' (fun y hy => hm y (List.mem_cons_of_mem _ hy)), mem_put hl hr]
    simp only [List.mem_cons]
    constructor
    · rintro ((h | h) | h)
      · exact Or.inl h
      · exact Or.inr (Or.inl h)
      · exact Or.inr (Or.inr h)
    · rintro (h | h | h)
      · exact Or.inl (Or.inl h)
      · exact Or.inl (Or.inr h)
      · exact Or.inr h
theorem ord_puts {l m : List Rn} (h : Ord l) : Ord (puts l m) := by
  induction m generalizing l with
  | nil => exact h
  | cons r m ih => exact ih (ord_put h)

/-- Lists in their order with the same members are the same. -/
theorem ord_ext {l m : List Rn} (hl : Ord l) (hm : Ord m) (h : ∀ x, x ∈ l ↔ x ∈ m) : l = m := by
  induction l generalizing m with
  | nil =>
    cases m with
    | nil => rfl
    | cons y m => exact absurd ((h y).2 List.mem_cons_self) (by simp)
  | cons x l ih =>
    cases m with
    | nil => exact absurd ((h x).1 List.mem_cons_self) (by simp)
    | cons y m =>
      have hxy : x = y := by
        rcases List.mem_cons.1 ((h x).1 List.mem_cons_self) with e | hx
        · exact e
        · rcases List.mem_cons.1 ((h y).2 List.mem_cons_self) with e | hy
          · exact e.symm
          · have h1 := hm.1 x hx
            have h2 := hl.1 y hy
            have := lt_trans h1 h2
            rw [lt_irrefl] at this
            cases this
      subst hxy
      congr 1
      refine ih hl.2 hm.2 (fun z => ⟨fun hz => ?_, fun hz => ?_⟩)
      · rcases List.mem_cons.1 ((h z).1 (List.mem_cons_of_mem _ hz)) with rfl | h'
        · have := hl.1 z hz
          rw [lt_irrefl] at this
          cases this
        · exact h'
      · rcases List.mem_cons.1 ((h z).2 (List.mem_cons_of_mem _ hz)) with rfl | h'
        · have := hm.1 z hz
          rw [lt_irrefl] at this
          cases this
        · exact h'

end En
end Go.Proofs.Ytfldcmdhneegmaa

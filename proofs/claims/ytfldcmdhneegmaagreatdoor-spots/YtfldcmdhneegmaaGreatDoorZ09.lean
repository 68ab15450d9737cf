import Derived.Test.YtfldcmdhneegmaaGreatDoorZ00

/-
  PLAIN: runs that are dropped behind an Advance (P8) change nothing that comes later; one Advance or several.
-/
namespace Go.Proofs.YtfldcmdhneegmaaGreatDoor
namespace En

def inWin (P : Pat) (ev : Ev) (r : Rn) : Bool := decide (far ev.time r.first ≤ P.win)
/-- P8. -/
def lasting (P : Pat) (w : Int) (r : Rn) : Bool := decide (far w r.first < P.win)

theorem longer_congr {P : Pat} {A B : List Rn} {ev : Ev} {step : Nat} (c : Rn → Bool) (h : A.filter (inWin P ev) = B.filter (inWin P ev)) : longer P (A.filter c) ev step = longer P (B.filter c) ev step := by
  have comm : ∀ l : List Rn, (l.filter c).filter (fun r => decide (far ev.time r.first ≤ P.win)) = (l.filter (inWin P ev)).filter c := by
    intro l
    rw [List.filter_filter, List.filter_filter]
    congr 1
    funext r
    rw [Bool.and_comm]
    rfl
  unfold longer
  rw [comm, comm, h]
theorem news_congr {P : Pat} {A B : List Rn} {ev : Ev} (h : A.filter (inWin P ev) = B.filter (inWin P ev)) (step : Nat) : news P A ev step = news P B ev step := by
  unfold news
  split
  · rfl
  · rw [longer_congr _ h]
theorem next_congr {P : Pat} {A B : List Rn} {ev : Ev} (h : A.filter (inWin P ev) = B.filter (inWin P ev)) : next P A ev = next P B ev := by
  unfold next
  have h' : (A.filter fun r => decide (far ev.time r.first ≤ P.win)) = (B.filter fun r => decide (far ev.time r.first ≤ P.win)) := h
  rw [h']
  congr 1
  funext l s
  rw [news_congr h]
theorem advInc_congr {P : Pat} {A B : List Rn} {ev : Ev} {t : List Ev} (h : A.filter (inWin P ev) = B.filter (inWin P ev)) : advInc P A (ev :: t) = advInc P B (ev :: t) := by
  unfold advInc
  rw [next_congr h, news_congr h]

/-- What stands within the window at a later event lasted. -/
theorem lasting_in {P : Pat} {w : Int} {ev : Ev} {r : Rn} (h0 : -9223372036854775808 ≤ r.first) (h1 : r.first ≤ w) (h2 : w < ev.time) (h3 : ev.time ≤ 9223372036854775807) (h : inWin P ev r = true) : lasting P w r = true := by
  have h' := of_decide_eq_true h
  rw [far_eq (by omega) h0 h3] at h'
  unfold lasting
  rw [far_eq h1 h0 (by omega)]
  exact decide_eq_true (by omega)
theorem lasting_filter {P : Pat} {w : Int} {ev : Ev} {B : List Rn} (h0 : ∀ r ∈ B, -9223372036854775808 ≤ r.first ∧ r.first ≤ w) (h2 : w < ev.time) (h3 : ev.time ≤ 9223372036854775807) : (B.filter (lasting P w)).filter (inWin P ev) = B.filter (inWin P ev) := by
  rw [List.filter_filter]
  apply List.filter_congr
  intro r hr
  cases hi : inWin P ev r with
  | false => rfl
  | true => rw [lasting_in (h0 r hr).1 (h0 r hr).2 h2 h3 hi]; rfl

/-- Two lists of events, one behind the other. -/
theorem advInc_append (P : Pat) (A : List Rn) (l m : List Ev) : advInc P A (l ++ m) = match advInc P A l with
    | none => none
    | some (x, B) => (advInc P B m).map fun y => (x ++ y.1, y.2) := by
  induction l generalizing A with
  | nil =>
    show advInc P A m = (advInc P A m).map fun y => ([] ++ y.1, y.2)
    cases advInc P A m <;> rfl
  | cons ev t ih =>
    have e1 : ∀ l, advInc P A (ev :: l) = if 24 < (next P A ev).length then none else match advInc P (next P A ev) l with
      | none => none
      | some (m, B) => some (((news P A ev (P.steps.length - 1)).map fun r => (r.offs, ev.time)) ++ m, B) := by
      intro l
      conv => lhs; unfold advInc
      rfl
    rw [List.cons_append, e1, e1]
    by_cases hu : 24 < (next P A ev).length
    · rw [if_pos hu, if_pos hu]
    · rw [if_neg hu, if_neg hu, ih]
      cases advInc P (next P A ev) t with
      | none => rfl
      | some q =>
        obtain ⟨x, B⟩ := q
        simp only []
        cases advInc P B m with
        | none => rfl
        | some y => simp

/-- The matches alone do not tell whether the runs that did not last were dropped. -/
theorem advInc_lasting (P : Pat) (w : Int) (B : List Rn) (m : List Ev) (h0 : ∀ r ∈ B, -9223372036854775808 ≤ r.first ∧ r.first ≤ w) (hm : ∀ e ∈ m, w < e.time ∧ e.time ≤ 9223372036854775807) :
    (advInc P (B.filter (lasting P w)) m).map Prod.fst = (advInc P B m).map Prod.fst := by
  cases m with
  | nil => rfl
  | cons ev t => rw [advInc_congr (lasting_filter h0 (hm ev List.mem_cons_self).1 (hm ev List.mem_cons_self).2)]

end En
end Go.Proofs.YtfldcmdhneegmaaGreatDoor

/-
  PLAIN: what a list of runs in order with the right members is: the runs that end with an event, and what is under way behind it.
-/
namespace Go.Proofs.YtfldcmdhneegmaaGreatDoor
namespace En

theorem det_one {ψ : Int → Int} {ev : Ev} (h : ev.time = ψ ev.off) : Det ψ ⟨0, [ev.off], ev.time⟩ := ⟨by simp, by simpa using h⟩
theorem mem_news {P : Pat} {A : List Rn} {ev : Ev} {ψ : Int → Int} (hA : ∀ q ∈ A, Det ψ q) (hev : ev.time = ψ ev.off) (s : Nat) (x : Rn) :
    x ∈ news P A ev s ↔ kindAt P s = some ev.kind ∧ ((s = 0 ∧ x = ⟨0, [ev.off], ev.time⟩) ∨ ∃ q ∈ A, (q.step + 1 = s ∨ (q.step = s ∧ plusAt P s = true)) ∧ far ev.time q.first ≤ P.win ∧ x = ext q ev s) := by
  unfold news
  by_cases hk : kindAt P s = some ev.kind
  · rw [if_neg (by simp [hk])]
    have h0 : ∀ y ∈ (if s = 0 then [({ step := 0, offs := [ev.off], first := ev.time } : Rn)] else []), Det ψ y := by
      intro y hy
      split at hy
      · rw [List.mem_singleton.1 hy]; exact det_one hev
      · cases hy
    have h1 : ∀ y ∈ longer P (A.filter fun q => decide (q.step + 1 = s) || (decide (q.step = s) && plusAt P s)) ev s, Det ψ y := by
      intro y hy
      obtain ⟨q, hq, _, rfl⟩ := mem_longer.1 hy
      exact det_ext (hA q (List.mem_filter.1 hq).1) ev s
    rw [mem_puts h0 h1, mem_longer]
    constructor
    · rintro (h | ⟨q, hq, hf, rfl⟩)
      · refine ⟨hk, Or.inl ?_⟩
        split at h
        · exact ⟨by assumption, List.mem_singleton.1 h⟩
        · cases h
      · obtain ⟨hq1, hq2⟩ := List.mem_filter.1 hq
        refine ⟨hk, Or.inr ⟨q, hq1, ?_, hf, rfl⟩⟩
        simpa using hq2
    · rintro ⟨-, ⟨hs, rfl⟩ | ⟨q, hq, hc, hf, rfl⟩⟩
      · left
        rw [if_pos hs]
        exact List.mem_singleton.2 rfl
      · right
        exact ⟨q, List.mem_filter.2 ⟨hq, by simpa using hc⟩, hf, rfl⟩
  · rw [if_pos hk]
    constructor
    · intro h; cases h
    · rintro ⟨h, _⟩; exact absurd h hk
theorem news_det {P : Pat} {A : List Rn} {ev : Ev} {ψ : Int → Int} (hA : ∀ q ∈ A, Det ψ q) (hev : ev.time = ψ ev.off) (s : Nat) : ∀ x ∈ news P A ev s, Det ψ x ∧ x.step = s := by
  intro x hx
  obtain ⟨_, ⟨hs, rfl⟩ | ⟨q, hq, _, _, rfl⟩⟩ := (mem_news hA hev s x).1 hx
  · exact ⟨det_one hev, hs.symm⟩
  · exact ⟨det_ext (hA q hq) ev s, rfl⟩
theorem ord_news (P : Pat) (A : List Rn) (ev : Ev) (s : Nat) : Ord (news P A ev s) := by
  unfold news
  split
  · exact trivial
  · refine ord_puts ?_
    split
    · refine ⟨fun y hy => ?_, trivial⟩
      cases hy
    · exact trivial

/-- Runs in order that are all that end with the event: those at the last step are its matches. -/
theorem ended_last {P : Pat} {A E : List Rn} {ev : Ev} {ψ : Int → Int} (hA : ∀ q ∈ A, Det ψ q) (hev : ev.time = ψ ev.off) (hO : Ord E) (hE : ∀ x, x ∈ E ↔ ∃ s, s < P.steps.length ∧ x ∈ news P A ev s) (s : Nat) (hs : s < P.steps.length) : (E.filter fun r => decide (r.step = s)) = news P A ev s := by
  refine ord_ext (ord_filter _ hO) (ord_news P A ev s) (fun x => ?_)
  rw [List.mem_filter, hE]
  constructor
  · rintro ⟨⟨s', hs', hx⟩, hst⟩
    have h1 := (news_det hA hev s' x hx).2
    have h2 := of_decide_eq_true hst
    rw [← h2, h1]
    exact hx
  · intro hx
    exact ⟨⟨s, hs, hx⟩, decide_eq_true (news_det hA hev s x hx).2⟩
/-- .. and, with those that stand within the window, what is under way behind it. -/
theorem ended_next {P : Pat} {A E N : List Rn} {ev : Ev} {ψ : Int → Int} (hA : ∀ q ∈ A, Det ψ q) (hev : ev.time = ψ ev.off) (hOA : Ord A) (hE : ∀ x, x ∈ E ↔ ∃ s, s < P.steps.length ∧ x ∈ news P A ev s) (hO : Ord N) (hN : ∀ x, x ∈ N ↔ x ∈ A.filter (inWin P ev) ∨ x ∈ E.filter (fun r => goes P r.step)) : N = next P A ev := by
  refine ord_ext hO (ord_next hOA) (fun x => ?_)
  rw [mem_next hA (fun s q hq => (news_det hA hev s q hq).1), hN, List.mem_filter, List.mem_filter, hE]
  constructor
  · rintro (⟨h1, h2⟩ | ⟨⟨s, hs, hx⟩, hg⟩)
    · exact Or.inl ⟨h1, of_decide_eq_true h2⟩
    · have h1 := (news_det hA hev s x hx).2
      rw [h1] at hg
      exact Or.inr ⟨s, hs, hg, hx⟩
  · rintro (⟨h1, h2⟩ | ⟨s, hs, hg, hx⟩)
    · exact Or.inl ⟨h1, decide_eq_true h2⟩
    · have h1 := (news_det hA hev s x hx).2
      exact Or.inr ⟨⟨s, hs, hx⟩, by rw [h1]; exact hg⟩

end En
end Go.Proofs.YtfldcmdhneegmaaGreatDoor

/-
  PLAIN: sorted, then one of those that are the same: in order, with the same members.
-/
namespace Go.Proofs.YtfldcmdhneegmaaGreatDoor
namespace En

def compact : List Rn → List Rn
  | [] => []
  | [x] => [x]
  | x :: y :: t => if sameKey x y then compact (x :: t) else x :: compact (y :: t)

/-- None goes ahead of one that lies in front of it. -/
def Sorted : List Rn → Prop
  | [] => True
  | x :: t => (∀ y ∈ t, lt y x = false) ∧ Sorted t

theorem sameKey_comm (a b : Rn) : sameKey a b = sameKey b a := by
  unfold sameKey
  rw [show decide (a.offs = b.offs) = decide (b.offs = a.offs) by rw [decide_eq_decide]; exact eq_comm, show decide (a.step = b.step) = decide (b.step = a.step) by rw [decide_eq_decide]; exact eq_comm]

theorem compact_ord {ψ : Int → Int} (n : Nat) (l : List Rn) (hn : l.length ≤ n) (hd : ∀ x ∈ l, Det ψ x) (hs : Sorted l) : Ord (compact l) ∧ ∀ x, x ∈ compact l ↔ x ∈ l := by
  induction n generalizing l with
  | zero =>
    obtain rfl : l = [] := List.eq_nil_of_length_eq_zero (by omega)
    unfold compact
    exact ⟨trivial, fun x => Iff.rfl⟩
  | succ n ih =>
    match l, hn, hd, hs with
    | [], _, _, _ => unfold compact; exact ⟨trivial, fun x => Iff.rfl⟩
    | [x], _, _, _ =>
      unfold compact
      refine ⟨⟨fun y hy => ?_, trivial⟩, fun y => Iff.rfl⟩
      cases hy
    | x :: y :: t, hn, hd, hs =>
      unfold compact
      obtain ⟨hx, hy, ht⟩ := hs
      by_cases hk : sameKey x y = true
      · rw [if_pos hk]
        have hxy : x = y := det_eq (hd x List.mem_cons_self) (hd y (List.mem_cons_of_mem _ List.mem_cons_self)) hk
        have hd' : ∀ z ∈ x :: t, Det ψ z := by
          intro z hz
          rcases List.mem_cons.1 hz with h | h
          · rw [h]; exact hd x List.mem_cons_self
          · exact hd z (List.mem_cons_of_mem _ (List.mem_cons_of_mem _ h))
        obtain ⟨h1, h2⟩ := ih (x :: t) (by simp at hn ⊢; omega) hd' ⟨fun z hz => hx z (List.mem_cons_of_mem _ hz), ht⟩
        refine ⟨h1, fun z => ?_⟩
        rw [h2]
        subst hxy
        simp
      · rw [if_neg hk]
        obtain ⟨h1, h2⟩ := ih (y :: t) (by simp at hn ⊢; omega) (fun z hz => hd z (List.mem_cons_of_mem _ hz)) ⟨hy, ht⟩
        have hxy : lt x y = true := lt_total (by rw [sameKey_comm]; simpa using hk) (hx y List.mem_cons_self)
        refine ⟨⟨fun z hz => ?_, h1⟩, fun z => ?_⟩
        · rcases List.mem_cons.1 ((h2 z).1 hz) with h | h
          · rw [h]; exact hxy
          · by_cases hk2 : sameKey y z = true
            · have hyz : y = z := det_eq (hd y (List.mem_cons_of_mem _ List.mem_cons_self)) (hd z (List.mem_cons_of_mem _ (List.mem_cons_of_mem _ h))) hk2
              rw [← hyz]; exact hxy
            · exact lt_trans hxy (lt_total (by rw [sameKey_comm]; simpa using hk2) (hy z h))
        · rw [List.mem_cons, List.mem_cons, h2]

end En
end Go.Proofs.YtfldcmdhneegmaaGreatDoor

/-
  PLAIN: how many runs there are at most, and how long they are.
-/
namespace Go.Proofs.YtfldcmdhneegmaaGreatDoor
namespace En

theorem put_ge (l : List Rn) (r : Rn) : l.length ≤ (put l r).length := by
  induction l with
  | nil => simp
  | cons x t ih =>
    unfold put
    split
    · exact Nat.le_refl _
    · split
      · simp; exact ih
      · simp
theorem put_le (l : List Rn) (r : Rn) : (put l r).length ≤ l.length + 1 := by
  induction l with
  | nil => simp [put]
  | cons x t ih =>
    unfold put
    split
    · simp
    · split
      · simp; exact ih
      · simp
theorem puts_ge (l m : List Rn) : l.length ≤ (puts l m).length := by
  induction m generalizing l with
  | nil => exact Nat.le_refl _
  | cons r m ih => exact Nat.le_trans (put_ge l r) (ih _)
theorem puts_le (l m : List Rn) : (puts l m).length ≤ l.length + m.length := by
  induction m generalizing l with
  | nil => exact Nat.le_refl _
  | cons r m ih =>
    have h1 := ih (put l r)
    have h2 := put_le l r
    show (puts (put l r) m).length ≤ _
    simp
    omega
theorem mem_puts_sub {l m : List Rn} {x : Rn} (h : x ∈ puts l m) : x ∈ l ∨ x ∈ m := by
  induction m generalizing l with
  | nil => exact Or.inl h
  | cons r m ih =>
    rcases ih (l := put l r) h with h | h
    · rcases mem_put_sub h with h | h
      · exact Or.inl h
      · exact Or.inr (by rw [h]; exact List.mem_cons_self)
    · exact Or.inr (List.mem_cons_of_mem _ h)
theorem longer_le (P : Pat) (l : List Rn) (ev : Ev) (step : Nat) : (longer P l ev step).length ≤ l.length := by
  unfold longer
  rw [List.length_map]
  exact List.length_filter_le _ _
theorem mem_longer_len {P : Pat} {l : List Rn} {ev : Ev} {step M : Nat} (h : ∀ r ∈ l, r.offs.length ≤ M) : ∀ r ∈ longer P l ev step, r.offs.length ≤ M + 1 := by
  intro r hr
  obtain ⟨q, hq, _, rfl⟩ := mem_longer.1 hr
  have := h q hq
  simp [ext]
  omega

theorem back_ge (P : Pat) (D : List Ev) (E : Nat → Nat → List Rn) (ev : Ev) (step s j : Nat) (l : List Rn) : l.length ≤ (back P D E ev step s j l).length := by
  induction j generalizing l with
  | zero => exact Nat.le_refl _
  | succ j ih =>
    unfold back
    split
    · exact Nat.le_refl _
    · split
      · exact Nat.le_refl _
      · exact Nat.le_trans (puts_ge _ _) (ih _)
/-- b: how many runs end with event j at most, each three times as many as with the one before. -/
theorem back_le (P : Pat) (D : List Ev) (E : Nat → Nat → List Rn) (ev : Ev) (step s c : Nat) (j : Nat) (hE : ∀ i, i < j → (E s i).length ≤ c * 3 ^ i) (l : List Rn) : 2 * (back P D E ev step s j l).length + c ≤ 2 * l.length + c * 3 ^ j := by
  induction j generalizing l with
  | zero => simp [back]
  | succ j ih =>
    have h3 : c * 3 ^ (j + 1) = 3 * (c * 3 ^ j) := by rw [Nat.pow_succ, Nat.mul_comm (3 ^ j) 3, ← Nat.mul_assoc, Nat.mul_comm c 3, Nat.mul_assoc]
    have hp : c ≤ c * 3 ^ j := Nat.le_mul_of_pos_right c (Nat.pow_pos (by omega))
    unfold back
    split
    · omega
    · split
      · omega
      · have h1 := ih (fun i hi => hE i (by omega)) (puts l (longer P (E s j) ev step))
        have h2 := puts_le l (longer P (E s j) ev step)
        have h4 := longer_le P (E s j) ev step
        have h5 := hE j (by omega)
        omega
theorem fromOld_ge (P : Pat) (old : List Rn) (ev : Ev) (step s : Nat) (l : List Rn) : l.length ≤ (fromOld P old ev step s l).length := by
  unfold fromOld
  induction old generalizing l with
  | nil => exact Nat.le_refl _
  | cons r old ih =>
    rw [List.foldl_cons]
    refine Nat.le_trans ?_ (ih _)
    split
    · exact puts_ge _ _
    · exact Nat.le_refl _
theorem fromOld_le (P : Pat) (old : List Rn) (ev : Ev) (step s : Nat) (l : List Rn) : (fromOld P old ev step s l).length ≤ l.length + old.length := by
  unfold fromOld
  induction old generalizing l with
  | nil => exact Nat.le_refl _
  | cons r old ih =>
    rw [List.foldl_cons]
    refine Nat.le_trans (ih _) ?_
    split
    · have h1 := puts_le l (longer P [r] ev step)
      have h2 := longer_le P [r] ev step
      simp at h2 ⊢
      omega
    · simp

theorem endsF_le (P : Pat) (D : List Ev) (old : List Rn) (f step k : Nat) : (endsF P D old f step k).length ≤ (1 + 2 * old.length) * 3 ^ k := by
  induction f generalizing step k with
  | zero => simp [endsF]
  | succ f ih =>
    have hp : 1 + 2 * old.length ≤ (1 + 2 * old.length) * 3 ^ k := Nat.le_mul_of_pos_right _ (Nat.pow_pos (by omega))
    unfold endsF
    split
    · simp
    · rename_i ev _
      split
      · simp
      · have h0 : (if step = 0 then [({ step := 0, offs := [ev.off], first := ev.time } : Rn)] else []).length ≤ 1 := by split <;> simp
        generalize (if step = 0 then [({ step := 0, offs := [ev.off], first := ev.time } : Rn)] else []) = l0 at h0
        have one : ∀ (s : Nat) (l : List Rn), 2 * (fromOld P old ev step s (back P D (endsF P D old f) ev step s k l)).length + (1 + 2 * old.length) ≤ 2 * l.length + 2 * old.length + (1 + 2 * old.length) * 3 ^ k := by
          intro s l
          have h1 := back_le P D (endsF P D old f) ev step s (1 + 2 * old.length) k (fun i _ => ih s i) l
          have h2 := fromOld_le P old ev step s (back P D (endsF P D old f) ev step s k l)
          omega
        simp only []
        by_cases hs : 0 < step
        · rw [if_pos hs]
          have h1 := one (step - 1) l0
          by_cases hp' : plusAt P step = true
          · rw [if_pos hp']
            have h2 := one step (fromOld P old ev step (step - 1) (back P D (endsF P D old f) ev step (step - 1) k l0))
            omega
          · rw [if_neg hp']
            omega
        · rw [if_neg hs]
          by_cases hp' : plusAt P step = true
          · rw [if_pos hp']
            have h2 := one step l0
            omega
          · rw [if_neg hp']
            omega

theorem back_offs {P : Pat} {D : List Ev} {E : Nat → Nat → List Rn} {ev : Ev} {step s M : Nat} (j : Nat) (hE : ∀ i, i < j → ∀ r ∈ E s i, r.offs.length ≤ M) (l : List Rn) (hl : ∀ r ∈ l, r.offs.length ≤ M + 1) : ∀ r ∈ back P D E ev step s j l, r.offs.length ≤ M + 1 := by
  induction j generalizing l with
  | zero => exact hl
  | succ j ih =>
    unfold back
    split
    · exact hl
    · split
      · exact hl
      · refine ih (fun i hi => hE i (by omega)) _ (fun r hr => ?_)
        rcases mem_puts_sub hr with h | h
        · exact hl r h
        · exact mem_longer_len (hE j (by omega)) r h
theorem fromOld_offs {P : Pat} {old : List Rn} {ev : Ev} {step s M : Nat} (ho : ∀ r ∈ old, r.offs.length ≤ M) (l : List Rn) (hl : ∀ r ∈ l, r.offs.length ≤ M + 1) : ∀ r ∈ fromOld P old ev step s l, r.offs.length ≤ M + 1 := by
  unfold fromOld
  induction old generalizing l with
  | nil => exact hl
  | cons q old ih =>
    rw [List.foldl_cons]
    refine ih (fun r hr => ho r (List.mem_cons_of_mem _ hr)) _ ?_
    split
    · intro r hr
      rcases mem_puts_sub hr with h | h
      · exact hl r h
      · exact mem_longer_len (l := [q]) (fun r hr => by rw [List.mem_singleton.1 hr]; exact ho q List.mem_cons_self) r h
    · exact hl

theorem endsF_offs {P : Pat} {D : List Ev} {old : List Rn} {M : Nat} (ho : ∀ r ∈ old, r.offs.length ≤ M) (f step k : Nat) : ∀ r ∈ endsF P D old f step k, r.offs.length ≤ M + k + 1 := by
  induction f generalizing step k with
  | zero => intro r hr; cases hr
  | succ f ih =>
    have one : ∀ (ev : Ev) (s : Nat) (l : List Rn), (∀ r ∈ l, r.offs.length ≤ M + k + 1) → ∀ r ∈ fromOld P old ev step s (back P D (endsF P D old f) ev step s k l), r.offs.length ≤ M + k + 1 := by
      intro ev s l hl
      refine fromOld_offs (M := M + k) (fun r hr => Nat.le_trans (ho r hr) (by omega)) _ ?_
      exact back_offs (M := M + k) k (fun i hi r hr => Nat.le_trans (ih s i r hr) (by omega)) _ hl
    unfold endsF
    split
    · intro r hr; cases hr
    · rename_i ev _
      split
      · intro r hr; cases hr
      · have h0 : ∀ r ∈ (if step = 0 then [({ step := 0, offs := [ev.off], first := ev.time } : Rn)] else []), r.offs.length ≤ M + k + 1 := by
          split
          · intro r hr
            rw [List.mem_singleton.1 hr]
            simp
          · intro r hr; cases hr
        generalize (if step = 0 then [({ step := 0, offs := [ev.off], first := ev.time } : Rn)] else []) = l0 at h0
        simp only []
        by_cases hs : 0 < step
        · rw [if_pos hs]
          by_cases hp' : plusAt P step = true
          · rw [if_pos hp']; exact one ev _ _ (one ev _ _ h0)
          · rw [if_neg hp']; exact one ev _ _ h0
        · rw [if_neg hs]
          by_cases hp' : plusAt P step = true
          · rw [if_pos hp']; exact one ev _ _ h0
          · rw [if_neg hp']; exact h0

end En
end Go.Proofs.YtfldcmdhneegmaaGreatDoor

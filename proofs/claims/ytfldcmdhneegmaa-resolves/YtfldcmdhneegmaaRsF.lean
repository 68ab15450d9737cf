/-
  A MAP WHOSE KEYS ARE PLACES: storing; what is kept, whole.
-/
import Derived.Test.YtfldcmdhneegmaaRsE
namespace Go.Proofs.Ytfldcmdhneegmaa
open Go.RowKit Go.Lib Go.Shelf

def getE (s k : Nat) : List Ent → Option Value
  | [] => none
  | e :: r => if s = e.1 ∧ k = e.2.1 then some e.2.2 else getE s k r
def putE (s k : Nat) (v : Value) : List Ent → List Ent
  | [] => [(s, k, v)]
  | e :: r => if s = e.1 ∧ k = e.2.1 then (s, k, v) :: r else e :: putE s k v r
theorem findE_get (s k : Nat) : ∀ (l : List Ent) (i : Nat), (findE s k l i).map (·.2) = getE s k l := by
  intro l
  induction l with
  | nil => intro i; rfl
  | cons e r ih =>
    intro i
    unfold findE getE
    split
    · rfl
    · exact ih (i + 1)
theorem valE_get (s k : Nat) (l : List Ent) : valE s k l = (getE s k l).getD (.slice none 0 0) := by
  unfold valE
  rw [findE_get]
theorem getE_put (s k : Nat) (v : Value) : ∀ (l : List Ent) (s' k' : Nat), getE s' k' (putE s k v l) = if s' = s ∧ k' = k then some v else getE s' k' l := by
  intro l
  induction l with
  | nil =>
    intro s' k'
    simp [putE, getE]
  | cons e r ih =>
    intro s' k'
    unfold putE
    split
    · rename_i h
      unfold getE
      by_cases h1 : s' = s ∧ k' = k
      · simp [h1]
      · rw [if_neg h1]
        simp only [h1, if_false]
        rw [if_neg (by rw [← h.1, ← h.2]; exact h1)]
    · rename_i h
      unfold getE
      rw [ih]
      by_cases h1 : s' = s ∧ k' = k
      · rw [if_pos h1, if_pos h1, if_neg (by rw [h1.1, h1.2]; exact h)]
      · rw [if_neg h1, if_neg h1]
theorem valE_put (s k : Nat) (v : Value) (l : List Ent) : valE s k (putE s k v l) = v := by rw [valE_get, getE_put, if_pos ⟨rfl, rfl⟩]; rfl
theorem valE_other (s k : Nat) (v : Value) (l : List Ent) {s' k' : Nat} (h : ¬ (s' = s ∧ k' = k)) : valE s' k' (putE s k v l) = valE s' k' l := by rw [valE_get, valE_get, getE_put, if_neg h]
theorem findE_some (s k : Nat) (v : Value) : ∀ (l : List Ent) (j i : Nat) (v0 : Value), findE s k l j = some (i, v0) → j ≤ i ∧ i - j < l.length ∧ putE s k v l = l.set (i - j) (s, k, v) ∧ (∀ e, l[i - j]? = some e → e.1 = s ∧ e.2.1 = k) := by
  intro l
  induction l with
  | nil => intro j i v0 h; cases h
  | cons e r ih =>
    intro j i v0 h
    unfold findE at h
    split at h
    · rename_i hk
      cases h
      refine ⟨Nat.le_refl _, by simp, ?_, ?_⟩
      · unfold putE
        rw [if_pos hk, Nat.sub_self]
        rfl
      · intro e' he
        rw [Nat.sub_self] at he
        simp at he
        subst he
        exact ⟨hk.1.symm, hk.2.symm⟩
    · rename_i hk
      obtain ⟨h1, h2, h3, h4⟩ := ih (j + 1) i v0 h
      have e1 : i - j = (i - (j + 1)) + 1 := by omega
      refine ⟨by omega, by simp; omega, ?_, ?_⟩
      · unfold putE
        rw [if_neg hk, h3, e1, List.set_cons_succ]
      · intro e' he
        rw [e1] at he
        simp at he
        exact h4 e' he
theorem findE_none (s k : Nat) (v : Value) : ∀ (l : List Ent) (j : Nat), findE s k l j = none → putE s k v l = l ++ [(s, k, v)] := by
  intro l
  induction l with
  | nil => intro j _; rfl
  | cons e r ih =>
    intro j h
    unfold findE at h
    split at h
    · cases h
    · rename_i hk
      unfold putE
      rw [if_neg hk, ih (j + 1) h]
      rfl
theorem Try.stays (s k : Nat) (w : World) : (Instr.keyThatStays (pk s k) (pk s k)).run Try.prog w = .ok (pk s k) w := by
  unfold Instr.keyThatStays
  have : Instr.sameBits 10000 (pk s k) (pk s k) = true := by simp [Instr.sameBits, pk]
  rw [this]
  rfl
theorem run_put {w : World} {r : Nat} {l : List Ent} (h : MapAt w r l) (s k : Nat) (v : Value) : ∃ w', (Instr.mapUpdate 33 (.map (some r)) (pk s k) v).run Try.prog w = .ok () w' ∧ MapAt w' r (putE s k v l) ∧ w.grownBy w' (some r) ∧ w'.heap.size = w.heap.size := by
  obtain ⟨es, clock, hb, he⟩ := h
  have hlt := lt_of_block hb
  have hg : ∀ o : Obj, w.grownBy { w with heap := w.heap.setIfInBounds r o } (some r) := fun o => ⟨rfl, rfl, rfl, by simp, fun i hi hne => by
    show (w.heap.setIfInBounds r o)[i]? = w.heap[i]?
    rw [Array.getElem?_setIfInBounds_ne (fun e => hne (by rw [e]))]⟩
  have hn : ∀ o : Obj, (w.heap.setIfInBounds r o)[r]? = some o := fun o => by simp [hlt]
  have hfk := findKey_place s k w l _ he
  obtain ⟨bs, hbl, hes⟩ := he
  cases hf : findE s k l 0 with
  | none =>
    refine ⟨{ w with heap := w.heap.setIfInBounds r (.map (es.push { key := pk s k, val := v, born := clock }) (clock + 1)) }, ?_, ⟨_, _, hn _, ?_⟩, hg _, by simp⟩
    · unfold Instr.mapUpdate
      simp only [Sem.run_bind, run_underlying Try.underlying33, Result.andThen, MapKept.run_getObj_map hb, Try.checkPlace, hfk, hf, MapKept.run_setObj_map _ hb]
    · rw [findE_none s k v l 0 hf]
      refine ⟨bs ++ [clock], by simp [hbl], ?_⟩
      rw [Array.toList_push, hes, List.zip_append hbl.symm]
      simp [entOf]
  | some x =>
    obtain ⟨i, v0⟩ := x
    obtain ⟨-, h2, h3, h4⟩ := findE_some s k v l 0 i v0 hf
    rw [Nat.sub_zero] at h2 h3 h4
    have hik : es[i]? = some (entOf l[i] (bs[i]'(by omega))) := by
      rw [← Array.getElem?_toList, hes]
      simp [h2, hbl]
    obtain ⟨k1, k2⟩ := h4 l[i] (List.getElem?_eq_getElem h2)
    have hkey : ((es[i]?).map (·.key)).getD (pk s k) = pk s k := by
      rw [hik]
      show pk l[i].1 l[i].2.1 = pk s k
      rw [k1, k2]
    refine ⟨{ w with heap := w.heap.setIfInBounds r (.map (es.modify i fun e => { e with key := pk s k, val := v }) clock) }, ?_, ⟨_, _, hn _, ?_⟩, hg _, by simp⟩
    · unfold Instr.mapUpdate
      simp only [Sem.run_bind, run_underlying Try.underlying33, Result.andThen, MapKept.run_getObj_map hb, Try.checkPlace, hfk, hf, hkey, Try.stays, MapKept.run_setObj_map _ hb]
    · rw [h3]
      refine ⟨bs, by simp [hbl], ?_⟩
      apply List.ext_getElem?
      intro j
      rw [Array.getElem?_toList, Array.getElem?_modify]
      by_cases hij : i = j
      · subst hij
        rw [if_pos rfl, hik]
        simp [entOf, h2, hbl]
      · rw [if_neg hij, ← Array.getElem?_toList, hes]
        simp only [List.getElem?_map, List.zip, List.getElem?_zipWith]
        rw [List.getElem?_set_ne hij]

theorem StAt.on {w w' : World} {c : Value} {x : List UInt8} (h : StAt w c x) (hu : ∀ i, U8 w i → w'.heap[i]? = w.heap[i]?) (hs : w.heap.size ≤ w'.heap.size) : StAt w' c x := by
  obtain ⟨h1, h2, h3, h4⟩ := h
  refine ⟨h1, ?_, h3, h4⟩
  have := BytesAt.u8 h2 hu hs
  exact RowAt.mono this (fun i _ hi => by obtain ⟨c, fz, hb⟩ := hi; exact ⟨c, fz, (hu i ⟨c, fz, hb⟩).trans hb⟩)
theorem StAt.below {w w' : World} {c : Value} {x : List UInt8} (h : StAt w c x) (hb : Below w.heap.size w w') : StAt w' c x := h.on (fun i ⟨_, _, hi⟩ => hb.block i (lt_of_block hi)) hb.size
theorem StAt.grown {w w' : World} {c : Value} {x : List UInt8} {g : Option Nat} (h : StAt w c x) (hg : w.grownBy w' g) (hn : ∀ i, g = some i → ¬ U8 w i) : StAt w' c x :=
  h.on (fun i hi => hg.block i (by obtain ⟨_, _, hb⟩ := hi; exact lt_of_block hb) (fun e => hn i e.symm hi)) hg.size

/-- What is kept: at each place a row of states; no two rows lie in one block. -/
def KeepAt (base : Nat) (w : World) (r : Nat) (M : Nat → Nat → List (Value × List UInt8)) : Prop :=
  ∃ l : List Ent, MapAt w r l ∧ (∀ s k, StsAt base w (valE s k l) (M s k)) ∧ (∀ s k s' k', ¬ (s' = s ∧ k' = k) → (valE s k l).ownBlock = none ∨ (valE s k l).ownBlock ≠ (valE s' k' l).ownBlock)
theorem MapAt.on {w w' : World} {r : Nat} {l : List Ent} (h : MapAt w r l) (hb : w'.heap[r]? = w.heap[r]?) : MapAt w' r l := by
  obtain ⟨es, clock, h1, h2⟩ := h
  exact ⟨es, clock, hb.trans h1, h2⟩
theorem MapAt.lt {w : World} {r : Nat} {l : List Ent} (h : MapAt w r l) : r < w.heap.size := by
  obtain ⟨es, clock, h1, h2⟩ := h
  exact lt_of_block h1
theorem StsAt.below {base : Nat} {w w' : World} {v : Value} {ps : List (Value × List UInt8)} (h : StsAt base w v ps) (hb : Below w.heap.size w w') : StsAt base w' v ps := ⟨own_below h.1 hb, fun p hp => (h.2 p hp).below hb⟩
theorem KeepAt.below {base : Nat} {w w' : World} {r : Nat} {M : Nat → Nat → List (Value × List UInt8)} (h : KeepAt base w r M) (hb : Below w.heap.size w w') : KeepAt base w' r M := by
  obtain ⟨l, h1, h2, h3⟩ := h
  exact ⟨l, h1.on (hb.block r h1.lt), fun s k => (h2 s k).below hb, h3⟩
/-- At one place another row. -/
def updM (M : Nat → Nat → List (Value × List UInt8)) (s k : Nat) (ps : List (Value × List UInt8)) : Nat → Nat → List (Value × List UInt8) := fun s' k' => if s' = s ∧ k' = k then ps else M s' k'
theorem own_grown_other {w w' : World} {base : Nat} {e : TypeId} {size : Nat} {v : Value} {n : Nat} {xs : List Value} {g : Option Nat} (h : w.ownsRow base e size v n xs) (hg : w.grownBy w' g) (hne : v.ownBlock = none ∨ v.ownBlock ≠ g) : w'.ownsRow base e size v n xs := by
  refine ⟨h.1, ?_⟩
  rcases h.2 with h2 | ⟨b, cap, cur, hv, hb, hh, r⟩
  · exact Or.inl h2
  · refine Or.inr ⟨b, cap, cur, hv, hb, ?_, r⟩
    rw [hg.block b (lt_of_block hh) (fun e => by subst hv; rcases hne with h | h; (cases h); exact h e)]
    exact hh
theorem KeepAt.put {base : Nat} {w w1 w2 w3 : World} {r : Nat} {M : Nat → Nat → List (Value × List UInt8)} {l : List Ent} (h1 : MapAt w r l) (h2 : ∀ s k, StsAt base w (valE s k l) (M s k)) (h3 : ∀ s k s' k', ¬ (s' = s ∧ k' = k) → (valE s k l).ownBlock = none ∨ (valE s k l).ownBlock ≠ (valE s' k' l).ownBlock)
    {s k : Nat} (hg1 : w.grownBy w1 (valE s k l).ownBlock) (hg2 : w1.grownBy w2 (valE s k l).ownBlock) {v : Value} {ps : List (Value × List UInt8)} (hown : w2.ownsRow base 24 1 v ps.length (ps.map (·.1))) (hps : ∀ p ∈ ps, StAt w p.1 p.2) (hv : v.ownBlock = (valE s k l).ownBlock ∨ ∃ g, v.ownBlock = some g ∧ w.heap.size ≤ g)
    (hm : MapAt w3 r (putE s k v l)) (hg3 : w2.grownBy w3 (some r)) : KeepAt base w3 r (updM M s k ps) := by
  have hr : ∀ i c t fz, w.heap[i]? = some (.cells c t fz) → i ≠ r := fun i c t fz hi e => by
    obtain ⟨es, clock, hb, -⟩ := h1
    rw [e, hb] at hi
    cases hi
  have hu : ∀ i, U8 w i → ∀ b, (valE s k l).ownBlock = some b → i ≠ b := fun i ⟨c, fz, hi⟩ b hb e => by
    obtain ⟨-, c', fz', h⟩ := own_block (h2 s k).1 b hb
    rw [← e, hi] at h
    cases h
  have hg12 : w.grownBy w2 (valE s k l).ownBlock := ⟨hg2.os.trans hg1.os, hg2.tape.trans hg1.tape, hg2.output.trans hg1.output, Nat.le_trans hg1.size hg2.size, fun i hi hne => (hg2.block i (Nat.lt_of_lt_of_le hi hg1.size) hne).trans (hg1.block i hi hne)⟩
  have hst : ∀ c x, StAt w c x → StAt w3 c x := fun c x hx => by
    refine hx.on (fun i hi => ?_) (Nat.le_trans hg12.size hg3.size)
    obtain ⟨c', fz, hb⟩ := hi
    have hlt := lt_of_block hb
    rw [hg3.block i (Nat.lt_of_lt_of_le hlt hg12.size) (by intro e; injection e with e; exact hr i c' _ fz hb e)]
    exact hg12.block i hlt (fun e => hu i ⟨c', fz, hb⟩ i e.symm rfl)
  have hro : ∀ b, ∀ c e fz, w2.heap[b]? = some (.cells c e fz) → b ≠ r := fun b c e fz hb he => by
    obtain ⟨es, clock, hb', -⟩ := h1
    have hlt := lt_of_block hb'
    have : w2.heap[r]? = some (.map es clock) := (hg12.block r hlt (fun e => by
      obtain ⟨-, c', fz', h⟩ := own_block (h2 s k).1 r e.symm
      rw [hb'] at h
      cases h)).trans hb'
    rw [he, this] at hb
    cases hb
  refine ⟨putE s k v l, hm, fun s' k' => ?_, fun s1 k1 s2 k2 hne => ?_⟩
  · unfold updM
    by_cases he : s' = s ∧ k' = k
    · rw [if_pos he, he.1, he.2, valE_put]
      refine ⟨own_grown_other hown hg3 ?_, fun p hp => hst _ _ (hps p hp)⟩
      cases hvb : v.ownBlock with
      | none => exact Or.inl rfl
      | some b =>
        right
        obtain ⟨-, c, fz, hb⟩ := own_block hown b hvb
        intro e
        injection e with e
        exact hro b c _ fz hb e
    · rw [if_neg he, valE_other s k v l he]
      have ho := own_grown_other (h2 s' k').1 hg12 (h3 s' k' s k (fun h => he ⟨h.1.symm, h.2.symm⟩))
      refine ⟨own_grown_other ho hg3 ?_, fun p hp => hst _ _ ((h2 s' k').2 p hp)⟩
      cases hvb : (valE s' k' l).ownBlock with
      | none => exact Or.inl rfl
      | some b =>
        right
        obtain ⟨-, c, fz, hb⟩ := own_block ho b hvb
        intro e
        injection e with e
        exact hro b c _ fz hb e
  · have hnew : ∀ s' k', ¬ (s' = s ∧ k' = k) → v.ownBlock = none ∨ v.ownBlock ≠ (valE s' k' l).ownBlock := fun s' k' he => by
      rcases hv with hv | ⟨g, hg, hge⟩
      · rw [hv]
        exact h3 s k s' k' he
      · right
        intro e
        rw [hg] at e
        obtain ⟨-, c, fz, hb⟩ := own_block (h2 s' k').1 g e.symm
        have := lt_of_block hb
        omega
    by_cases e1 : s1 = s ∧ k1 = k
    · have e2 : ¬ (s2 = s ∧ k2 = k) := fun h => hne ⟨h.1.trans e1.1.symm, h.2.trans e1.2.symm⟩
      rw [e1.1, e1.2, valE_put, valE_other s k v l e2]
      exact hnew s2 k2 e2
    · rw [valE_other s k v l e1]
      by_cases e2 : s2 = s ∧ k2 = k
      · rw [e2.1, e2.2, valE_put]
        rcases hnew s1 k1 e1 with h | h
        · cases hb : (valE s1 k1 l).ownBlock with
          | none => exact Or.inl rfl
          | some b => right; rw [h]; intro e; cases e
        · exact Or.inr (fun e => h e.symm)
      · rw [valE_other s k v l e2]
        exact h3 s1 k1 s2 k2 hne

end Go.Proofs.Ytfldcmdhneegmaa

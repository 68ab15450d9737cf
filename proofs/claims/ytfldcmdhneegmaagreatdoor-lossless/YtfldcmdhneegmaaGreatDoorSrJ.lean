import Derived.Test.YtfldcmdhneegmaaGreatDoorZ08
import Derived.Test.YtfldcmdhneegmaaGreatDoorZ09
import Derived.Laws.EntriesVeiled

/-
  arranged: runs in their order, one of those that are the same.
-/
namespace Go.Proofs.YtfldcmdhneegmaaGreatDoor
open Go.RowKit Go.Lib

/-- A row of runs of the call's own. -/
structure ROwn (base : Nat) (w : World) (v : Value) (l : List RV) : Prop where
  row : w.ownsRow base 164 3 v l.length (runCells l)
  offs : ∀ x ∈ l, IntsAt (I64 w) w x.2 x.1.offs
theorem ROwn.nil (base : Nat) (w : World) : ROwn base w (.slice none 0 0) [] := ⟨⟨rfl, Or.inl ⟨rfl, rfl⟩⟩, fun _ h => by cases h⟩
theorem ROwn.below {base : Nat} {w w' : World} {v : Value} {l : List RV} (h : ROwn base w v l) (hb : Below w.heap.size w w') : ROwn base w' v l :=
  ⟨own_below h.row hb, fun x hx => (h.offs x hx).onI (fun i ⟨_, _, hi⟩ => hb.block i (lt_of_block hi)) hb.size⟩
theorem ROwn.toS {base : Nat} {w : World} {g n cap ob : Nat} {l : List RV} (h : ROwn base w (.slice (some ⟨g, 0, none⟩) n cap) l) (hO : OrdAt w ob) : SAt base g ob w cap l ∧ l.length = n := by
  have hl : l.length = n := by
    rcases h.row.2 with ⟨he, -⟩ | ⟨g', cap', cur, he, -⟩
    · cases he
    · cases he; rfl
  refine ⟨⟨?_, hO, h.offs⟩, hl⟩
  have := h.row
  rw [← hl] at this
  exact this
theorem ROwn.cases {base : Nat} {w : World} {v : Value} {l : List RV} (h : ROwn base w v l) : (v = .slice none 0 0 ∧ l = []) ∨ ∃ g cap, v = .slice (some ⟨g, 0, none⟩) l.length cap ∧ base ≤ g := by
  rcases h.row.2 with ⟨he, hn⟩ | ⟨g, cap, cur, he, hb, -⟩
  · exact Or.inl ⟨he, List.eq_nil_of_length_eq_zero hn⟩
  · exact Or.inr ⟨g, cap, he, hb⟩

/-! ### nothing to sort -/
set_option maxHeartbeats 1000000 in
set_option maxRecDepth 1000000 in
theorem insertR_nil (fv : Value) (w : World) : Calls Tryz.prog 257 #[.slice none 0 0, .int .i64 0, .int .i64 0, fv] w fun e w' => e = .returned (.tuple #[]) ∧ w' = w := by
  go_enter Tryz.func257, Tryz.ntmps257
  go_wp2
  refine wp_loop_rounds 1 ?_
  rw [rounds_succ]
  go_wp2
  go_end0
  exact ⟨rfl, rfl⟩
set_option maxHeartbeats 1000000 in
set_option maxRecDepth 1000000 in
theorem stableR_nil (fv : Value) (w : World) : Calls Tryz.prog 225 #[.slice none 0 0, .int .i64 0, fv] w fun e w' => e = .returned (.tuple #[]) ∧ w' = w := by
  go_enter Tryz.func225, Tryz.ntmps225
  go_wp2
  refine wp_loop_rounds 1 ?_
  rw [rounds_succ]
  go_wp2_with (go_at_call 257; refine (insertR_nil _ _).mono ?_; rintro e w1 ⟨rfl, hw⟩; have hw' := hw.symm; subst hw')
  refine wp_loop_rounds 1 ?_
  rw [rounds_succ]
  go_wp2
  go_end0
  exact ⟨rfl, rfl⟩
set_option maxHeartbeats 1000000 in
set_option maxRecDepth 1000000 in
theorem sortStableR_nil (fv : Value) (w : World) : Calls Tryz.prog 173 #[.slice none 0 0, fv] w fun e w' => e = .returned (.tuple #[]) ∧ w' = w := by
  go_enter Tryz.func173, Tryz.ntmps173
  go_wp2_with (go_at_call 225; refine (stableR_nil _ _).mono ?_; rintro e w1 ⟨rfl, hw⟩; have hw' := hw.symm; subst hw')
  go_end0
  exact ⟨rfl, rfl⟩
set_option maxHeartbeats 1000000 in
set_option maxRecDepth 1000000 in
theorem compactR_nil (fv : Value) (w : World) : Calls Tryz.prog 174 #[.slice none 0 0, fv] w fun e w' => e = .returned (.slice none 0 0) ∧ w' = w := by
  go_enter Tryz.func174, Tryz.ntmps174
  go_wp2
  go_ret
  exact ⟨rfl, rfl⟩

/-- What arranged leaves. -/
def ArrEnd (base : Nat) (v : Value) (l : List RV) (w : World) (e : Ending) (w' : World) : Prop :=
  ∃ v' S, e = .returned v' ∧ S.Perm l ∧ Sm.Srt ltR S ∧ ROwn base w' v' (cmpctR S) ∧ w.grownBy w' v.ownBlock ∧ v'.ownBlock = v.ownBlock

theorem var_set {W : World} {k : Nat} {z u : Value} {t : TypeId} (h : W.heap[k]? = some (.cells #[z] t (0, 0))) : (W.setCell ⟨k, 0, none⟩ u).heap[k]? = some (.cells #[u] t (0, 0)) ∧ W.cell? ⟨k, 0, none⟩ = some z ∧ W.frozen? ⟨k, 0, none⟩ = false := by
  refine ⟨?_, by simp [World.cell?, h], by simp [World.frozen?, h]⟩
  show (W.heap.modify k _)[k]? = _
  rw [Array.getElem?_modify, if_pos rfl, h]
  rfl
theorem var_new (w : World) (t : TypeId) (z u : Value) : ((w.alloc (.cells #[z] t)).setCell ⟨w.heap.size, 0, none⟩ u).heap[w.heap.size]? = some (.cells #[u] t (0, 0)) ∧ Below w.heap.size w ((w.alloc (.cells #[z] t)).setCell ⟨w.heap.size, 0, none⟩ u) ∧ (w.alloc (.cells #[z] t)).cell? ⟨w.heap.size, 0, none⟩ = some z ∧ (w.alloc (.cells #[z] t)).frozen? ⟨w.heap.size, 0, none⟩ = false := by
  have h0 : (w.alloc (.cells #[z] t)).heap[w.heap.size]? = some (.cells #[z] t (0, 0)) := heap_alloc_new w _
  obtain ⟨h1, h2, h3⟩ := var_set (u := u) h0
  refine ⟨h1, ?_, h2, h3⟩
  refine ((Below.refl _ _).alloc (Nat.le_refl _) (.cells #[z] t)).trans ⟨rfl, rfl, rfl, by simp [World.setCell], fun k hk => ?_⟩
  exact Below.heap_setCell _ _ _ _ (by simp; omega)

set_option maxHeartbeats 4000000 in
set_option maxRecDepth 1000000 in
theorem arranged_any (base : Nat) (v : Value) (l : List RV) (w : World) (h : ROwn base w v l) (hn : l.length ≤ 1000000) :
    Calls Tryz.prog 106 #[v] w (ArrEnd base v l w) := by
  have HO : Hid (∀ W, Calls Tryz.prog 172 #[] W fun e w1 => ∃ ob, e = .returned (.func (.func 254) #[] #[.pointer (some ⟨ob, 0, none⟩)]) ∧ ∃ W2, (w1.alloc (.cells #[Value.nilFunc] 292)).setCell ⟨w1.heap.size, 0, none⟩ (.func (.func 254) #[] #[.pointer (some ⟨ob, 0, none⟩)]) = W2 ∧ (w1.alloc (.cells #[Value.nilFunc] 292)).cell? ⟨w1.heap.size, 0, none⟩ = some Value.nilFunc ∧ (w1.alloc (.cells #[Value.nilFunc] 292)).frozen? ⟨w1.heap.size, 0, none⟩ = false ∧ CmpAt W2 w1.heap.size ob ∧ Below W.heap.size W W2) := hid (fun W => by
    refine (runOrder_any W).mono ?_
    rintro e w1 ⟨ob, he, hO, hb⟩
    obtain ⟨h1, h2, h3, h4⟩ := var_new w1 292 Value.nilFunc (.func (.func 254) #[] #[.pointer (some ⟨ob, 0, none⟩)])
    exact ⟨ob, he, _, rfl, h3, h4, ⟨h1, hO.below h2⟩, hb.trans (h2.mono hb.size)⟩)
  have HS := hid h
  rcases h.cases with ⟨rfl, rfl⟩ | ⟨g, cap, rfl, hbg⟩
  · clear h
    go_enter Tryz.func106, Tryz.ntmps106
    go_wp2_with (first | (go_at_call 172; refine (HO.out _).mono ?_; rintro e w1 ⟨ob, rfl, W2, hW2, hc1, hf1, hC1, hb1⟩; have hc2 : W2.cell? ⟨w1.heap.size, 0, none⟩ = some (.func (.func 254) #[] #[.pointer (some ⟨ob, 0, none⟩)]) := (by simp [World.cell?, hC1.var]); have H1 := hid (And.intro hC1 hb1); clear hC1 hb1) | (go_at_call 173; refine (sortStableR_nil _ _).mono ?_; rintro e w2 ⟨rfl, hw2⟩; have hw2' := hw2.symm; subst hw2') | (go_at_call 174; refine (compactR_nil _ _).mono ?_; rintro e w3 ⟨rfl, hw3⟩; have hw3' := hw3.symm; subst hw3'))

    go_ret
    exact ⟨_, [], rfl, List.Perm.refl _, List.Pairwise.nil, ROwn.nil _ _, grown_below H1.out.2 _, rfl⟩
  · obtain ⟨n, hnl⟩ : ∃ n, l.length = n := ⟨_, rfl⟩
    rw [hnl] at hn HS ⊢
    have HN := hid hnl
    clear h hnl
    go_enter Tryz.func106, Tryz.ntmps106
    go_wp2_with (first | (go_at_call 172; refine (HO.out _).mono ?_; rintro e w1 ⟨ob, rfl, W2, hW2, hc1, hf1, hC1, hb1⟩; have hc2 : W2.cell? ⟨w1.heap.size, 0, none⟩ = some (.func (.func 254) #[] #[.pointer (some ⟨ob, 0, none⟩)]) := (by simp [World.cell?, hC1.var]); have H1 := hid (And.intro hC1 hb1); clear hC1 hb1) | (go_at_call 173; refine (sortStableR_any base g ob cap l _ ((HS.out.below H1.out.2).toS H1.out.1.ord).1 n HN.out hn).mono ?_; rintro e w2 ⟨rfl, M, p1, q1, s1, g1⟩; have H2 := hid (And.intro p1 (And.intro q1 (And.intro s1 (And.intro (H1.out.1.grown ((HS.out.below H1.out.2).toS H1.out.1.ord).1 g1) (grown_trans (grown_below H1.out.2 _) g1))))); clear p1 q1 s1 g1) | (go_at_call 174; refine (compactR_any base g ob w1.heap.size cap M _ H2.out.2.2.1 H2.out.2.2.2.1 n (by rw [H2.out.1.length_eq, HN.out]) hn).mono ?_; rintro e w3 ⟨rfl, s2, g2⟩; have H3 := hid (And.intro s2 (grown_trans H2.out.2.2.2.2 g2)); clear s2 g2))
    go_ret
    exact ⟨_, M, rfl, H2.out.1, H2.out.2.1, ⟨H3.out.1.row, H3.out.1.offs⟩, H3.out.2, rfl⟩

/-! ### what it is, on plain runs -/
theorem En.lt_cmp (r s : En.Rn) : En.lt r s = decide (En.cmpR r s < 0) := by
  have key : ∀ a b : List Int, En.before a b = decide (En.cmpL a b < 0) := by
    intro a
    induction a with
    | nil => intro b; cases b <;> simp [En.before, En.cmpL]
    | cons x a ih =>
      intro b
      cases b with
      | nil => simp [En.before, En.cmpL]
      | cons y b =>
        unfold En.before En.cmpL
        rcases En.cmpI_cases x y with ⟨h, h'⟩ | ⟨h, h'⟩ | ⟨h, h'⟩
        · rw [h]; simp [show x ≠ y by omega, h']
        · rw [h, if_pos rfl, ← ih b]; simp [h']
        · rw [h]; simp [show x ≠ y by omega, show ¬ x < y by omega]
  unfold En.lt En.cmpR
  rw [key]
  by_cases h : En.cmpL r.offs s.offs = 0
  · rw [if_pos h]
    have h' := En.cmpL_eq.1 h
    rw [h, h']
    rcases En.cmpI_cases (r.step : Int) s.step with ⟨e, k⟩ | ⟨e, k⟩ | ⟨e, k⟩ <;> rw [e] <;> simp <;> omega
  · rw [if_neg h]
    have h' : r.offs ≠ s.offs := fun e => h (En.cmpL_eq.2 e)
    simp [h']
theorem srt_sorted {S : List RV} (h : Sm.Srt ltR S) : En.Sorted (S.map (·.1)) := by
  induction S with
  | nil => exact trivial
  | cons x t ih =>
    obtain ⟨h1, h2⟩ := List.pairwise_cons.1 h
    refine ⟨fun y hy => ?_, ih h2⟩
    obtain ⟨z, hz, rfl⟩ := List.mem_map.1 hy
    rw [En.lt_cmp]
    exact h1 z hz
theorem cmpct_map {ψ : Int → Int} : ∀ (t : List RV) (x : RV), (∀ y ∈ x :: t, En.Det ψ y.1) → (cmpctR (x :: t)).map (·.1) = En.compact ((x :: t).map (·.1))
  | [], x, _ => by simp [cmpctR, upR, En.compact]
  | y :: t, x, hd => by
    have ih := cmpct_map t y (fun z hz => hd z (List.mem_cons_of_mem _ hz))
    simp only [cmpctR, upR, List.map_cons] at ih ⊢
    unfold En.compact
    by_cases h : En.cmpR y.1 x.1 = 0
    · rw [if_pos h]
      have hk : En.sameKey x.1 y.1 = true := by
        obtain ⟨h1, h2⟩ := En.cmpR_eq.1 h
        exact En.sameKey_iff.2 ⟨h1.symm, h2.symm⟩
      rw [if_pos hk]
      have e : x.1 = y.1 := En.det_eq (hd x List.mem_cons_self) (hd y (List.mem_cons_of_mem _ List.mem_cons_self)) hk
      rw [e, ← ih]
    · rw [if_neg h]
      have hk : ¬ En.sameKey x.1 y.1 = true := fun hk => h (by
        obtain ⟨h1, h2⟩ := En.sameKey_iff.1 hk
        exact En.cmpR_eq.2 ⟨h1.symm, h2.symm⟩)
      rw [if_neg hk, List.map_cons, ih]
theorem arranged_ord {ψ : Int → Int} {S l : List RV} (hp : S.Perm l) (hs : Sm.Srt ltR S) (hd : ∀ x ∈ l, En.Det ψ x.1) : En.Ord ((cmpctR S).map (·.1)) ∧ (∀ r, r ∈ (cmpctR S).map (·.1) ↔ r ∈ l.map (·.1)) ∧ ∀ x ∈ cmpctR S, x ∈ l := by
  have hd' : ∀ x ∈ S, En.Det ψ x.1 := fun x hx => hd x (hp.mem_iff.1 hx)
  have hc : (cmpctR S).map (·.1) = En.compact (S.map (·.1)) := by
    cases S with
    | nil => simp [cmpctR, En.compact]
    | cons x t => exact cmpct_map t x hd'
  obtain ⟨h1, h2⟩ := En.compact_ord (ψ := ψ) (S.map (·.1)).length (S.map (·.1)) (Nat.le_refl _) (fun r hr => by obtain ⟨x, hx, rfl⟩ := List.mem_map.1 hr; exact hd' x hx) (srt_sorted hs)
  rw [hc]
  refine ⟨h1, fun r => ?_, fun x hx => hp.mem_iff.1 (cmpct_mem S x hx)⟩
  rw [h2]
  exact (hp.map (·.1)).mem_iff

end Go.Proofs.YtfldcmdhneegmaaGreatDoor

/-
  PLAIN: the document's own answer and the reader agree on every text.
-/
import Derived.Test.YtfldcmdhneegmaaDoorRefP
namespace Go.Proofs.YtfldcmdhneegmaaDoor
namespace Pl
open Go.Lib

theorem byte_of {b : UInt8} {r : List UInt8} {k : Nat} (hk : k < 128) (h : ((Utf8.decode ⟨(b :: r).toArray⟩ 0).1 : Int) = k) : b.toNat = k := by
  obtain ⟨_, h2, _⟩ := dec_low (b := b) (r := r) (by omega)
  omega

theorem fin_mid (s : List UInt8) (pl : Int) (hp : pl = 1 ∨ pl = 2) (acc : List (Int × Bool)) (ha : acc ≠ []) (h43 : pl = 1 → s.head? ≠ some 43) :
    fin (run s { pl := pl, l := acc, win := 0 }) = if (sp s).head? = some 47 then (if winOf ((sp s).drop 1) < 0 then none else some (acc, winOf ((sp s).drop 1))) else if s.head? = some 32 then fin (run (sp s) { pl := 0, l := acc, win := 0 }) else none := by
  have hpl : pl = 0 ∨ pl = 1 ∨ pl = 2 := Or.inr hp
  have h47 : ∀ (q : Int), (q = 0 ∨ q = 1 ∨ q = 2) → take { pl := q, l := acc, win := 0 } 47 = some { pl := 3, l := acc, win := 0 } := by
    intro q hq
    simp [take, takeSteps, hq, ha]
  cases s with
  | nil =>
    rcases hp with rfl | rfl <;> simp [run_nil, fin, complete, sp]
  | cons b r =>
    by_cases h32 : b = 32
    · subst h32
      rw [sp_cons32, run_ascii 32 r _ (by decide), show take { pl := pl, l := acc, win := 0 } ((32 : UInt8).toNat : Int) = some { pl := 0, l := acc, win := 0 } by simp [take, takeSteps, hpl]]
      simp only []
      rw [run_sp0]
      by_cases hs : (sp r).head? = some 47
      · rw [if_pos hs]
        cases hq : sp r with
        | nil => rw [hq] at hs; cases hs
        | cons c r3 =>
          rw [hq] at hs
          obtain rfl : c = 47 := by simpa using hs
          rw [run_ascii 47 r3 _ (by decide), show take { pl := 0, l := acc, win := 0 } ((47 : UInt8).toNat : Int) = _ from h47 0 (Or.inl rfl)]
          exact fin_win r3 acc
      · rw [if_neg hs, if_pos (by simp)]
    · rw [sp_cons r h32]
      by_cases hb : b = 47
      · subst hb
        rw [if_pos (by simp), run_ascii 47 r _ (by decide), show take { pl := pl, l := acc, win := 0 } ((47 : UInt8).toNat : Int) = _ from h47 pl hpl]
        exact fin_win r acc
      · rw [if_neg (by simpa using hb), if_neg (by simpa using h32), run_cons]
        have hn : take { pl := pl, l := acc, win := 0 } (Utf8.decode ⟨(b :: r).toArray⟩ 0).1 = none := by
          simp only [take, takeSteps, addPlus, addStep]
          rw [if_pos hpl, if_neg (by
            intro e; have := byte_of (k := 32) (by omega) e
            exact h32 (UInt8.toNat_inj.1 (show b.toNat = (32 : UInt8).toNat by rw [this]; rfl)))]
          split
          · rename_i e
            have hb43 := byte_of (k := 43) (by omega) e
            have : b = 43 := UInt8.toNat_inj.1 (show b.toNat = (43 : UInt8).toNat by rw [hb43]; rfl)
            rw [if_neg (by intro e1; exact h43 e1 (by simpa using this))]
          · rw [if_neg (by
              intro e; have := byte_of (k := 47) (by omega) e
              exact hb (UInt8.toNat_inj.1 (show b.toNat = (47 : UInt8).toNat by rw [this]; rfl)))]
            split
            · rw [if_neg (by rcases hp with rfl | rfl <;> simp)]
            · rfl
        rw [hn]
        rfl

theorem ref_run (f : Nat) (s : List UInt8) (acc : List (Int × Bool)) (hf : s.length < f) (h32 : s.head? ≠ some 32) (h47 : s.head? ≠ some 47 ∨ acc = []) :
    fin (run s { pl := 0, l := acc, win := 0 }) = refLoop f s acc := by
  induction f generalizing s acc with
  | zero => omega
  | succ f ih =>
    unfold refLoop
    cases s with
    | nil => simp [run_nil, fin, complete]
    | cons b r =>
      have hw := dec_width b r
      rw [run_cons]
      by_cases hlet : isLetterU (Utf8.decode ⟨(b :: r).toArray⟩ 0).1 = true
      · obtain ⟨n1, n2, n3⟩ := letter_not hlet
        by_cases h4 : acc.length = 4
        · rw [if_pos (by right; right; exact h4), show take { pl := 0, l := acc, win := 0 } (Utf8.decode ⟨(b :: r).toArray⟩ 0).1 = none by
            simp [take, takeSteps, addStep, n1, n2, n3, hlet, h4]]
          rfl
        · rw [if_neg (by simp [hlet, h4]), show take { pl := 0, l := acc, win := 0 } (Utf8.decode ⟨(b :: r).toArray⟩ 0).1 = some { pl := 1, l := acc ++ [(((Utf8.decode ⟨(b :: r).toArray⟩ 0).1 : Int), false)], win := 0 } by
            simp [take, takeSteps, addStep, n1, n2, n3, hlet, h4]]
          simp only []
          generalize Utf8.decode ⟨(b :: r).toArray⟩ 0 = q at *
          obtain ⟨c, n⟩ := q
          simp only [] at *
          generalize hs1 : (b :: r).drop n = s1
          have hl1 : s1.length < f := by
            rw [← hs1, List.length_drop]
            simp at hf ⊢
            omega
          by_cases hpl : s1.head? = some 43
          · cases s1 with
            | nil => cases hpl
            | cons d s2 =>
              obtain rfl : d = 43 := by simpa using hpl
              rw [run_ascii 43 s2 _ (by decide), show take { pl := 1, l := acc ++ [((c : Int), false)], win := 0 } ((43 : UInt8).toNat : Int) = some { pl := 2, l := acc ++ [((c : Int), true)], win := 0 } by
                simp [take, takeSteps, addPlus, plusLast_snoc]]
              simp only [List.head?_cons, beq_self_eq_true, if_true, List.drop_succ_cons, List.drop_zero]
              rw [fin_mid s2 2 (Or.inr rfl) _ (by simp) (by intro e; cases e)]
              split
              · rfl
              · rename_i hn47
                split
                · have := sp_length s2
                  exact ih (sp s2) _ (by simp at hl1; omega) (sp_head s2) (Or.inl hn47)
                · rfl
          · have e1 : (s1.head? == some 43) = false := by simpa using hpl
            rw [e1]
            simp only [Bool.false_eq_true, if_false]
            rw [fin_mid s1 1 (Or.inl rfl) _ (by simp) (fun _ => hpl)]
            split
            · rfl
            · rename_i hn47
              split
              · have := sp_length s1
                exact ih (sp s1) _ (by omega) (sp_head s1) (Or.inl hn47)
              · rfl
      · have hlet' : isLetterU (Utf8.decode ⟨(b :: r).toArray⟩ 0).1 = false := by simpa using hlet
        rw [if_pos (by right; left; exact hlet')]
        have hn : take { pl := 0, l := acc, win := 0 } (Utf8.decode ⟨(b :: r).toArray⟩ 0).1 = none := by
          simp only [take, takeSteps, addPlus]
          rw [if_pos (by simp), if_neg (by
            intro e; have := byte_of (k := 32) (by omega) e
            exact h32 (by rw [UInt8.toNat_inj.1 (show b.toNat = (32 : UInt8).toNat by rw [this]; rfl)]; rfl))]
          split
          · rfl
          · split
            · rename_i e
              have hb47 := byte_of (k := 47) (by omega) e
              have hb : b = 47 := UInt8.toNat_inj.1 (show b.toNat = (47 : UInt8).toNat by rw [hb47]; rfl)
              rcases h47 with h | h
              · exact absurd (by rw [hb]; rfl) h
              · simp [h]
            · rfl
        rw [hn]
        rfl

/-- The document's own answer is the reader's. -/
theorem ref_parse (l : List UInt8) (f : Nat) (hf : l.length < f) : refLoop f (sp l) [] = parse ⟨l.toArray⟩ := by
  have := sp_length l
  rw [← ref_run f (sp l) [] (by omega) (sp_head l) (Or.inr rfl), parse_fin, ← run_sp0]
  rfl

end Pl
end Go.Proofs.YtfldcmdhneegmaaDoor

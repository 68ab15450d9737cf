/-
  THE LAW Resolves: the row.
-/
import Derived.Test.YtfldcmdhneegmaaRsK
import Derived.Test.YtfldcmdhneegmaaRows
import Derived.ProofKit
import Derived.SliceStrings
namespace Go.Proofs.Ytfldcmdhneegmaa
open Go.ChangeShapes Go.WideShapes Go.ChangeAt Go.RowKit Go.Lib

theorem Try.ownR : ownKnob Try.prog.godebug = none := by kernel_rfl
theorem Try.laidOutR : laidOutB Try.prog = true := by kernel_rfl
theorem Try.cellsStr : Try.prog.cellsOf 9 = 1 := by kernel_rfl

/-- The texts that were handed in, as a row. -/
theorem strs_in (W : World) (a : Addr) (len cap : Nat) (ss : List ByteArray) (hl : len ≤ cap) (hm : cap ≤ maxLen) (hz : ss.length = cap) (hcell : ∀ i, i < ss.length → W.cell? (a.add i) = some (.string (ss.getD i ByteArray.empty))) (hlt : 0 < len → a.block < W.heap.size) :
    StrsIn (fun _ => True) W (.slice (some a) len cap) ((ss.take len).map (·.data.toList)) := by
  have hlen : ((ss.take len).map (·.data.toList)).length = len := by simp; omega
  by_cases h0 : len = 0
  · subst h0
    exact Or.inr ⟨by simp, _, _, rfl⟩
  · left
    obtain ⟨b, off, spot⟩ := a
    have hspot : spot = none := by simpa [Addr.add] using World.cell?_spot (hcell 0 (by omega))
    subst hspot
    refine ⟨by simp, Or.inr ⟨b, off, cap, by rw [hlen], trivial, hlt (by omega), by rw [hlen]; exact hl, hm, fun j u hj => ?_⟩⟩
    have hjl : j < len := by
      have := (List.getElem?_eq_some_iff.1 hj).1
      simp at this
      omega
    have h1 := hcell j (by omega)
    have h2 : ss[j]? = some ss[j] := List.getElem?_eq_getElem (by omega)
    simp [hjl, h2] at hj
    subst hj
    rw [add_plain] at h1
    rw [h1]
    congr 2
    rw [List.getD, h2]
    rfl

set_option maxRecDepth 100000 in
theorem resolves_lifted (os : Os) (started : os.Started) (H : Type) (enc : TypeId × Value → H) :
    ReturnsInHanded {} Try.checked os 3 .any (Rows.resolvesSpec.pre6 enc Try.prog Try.f3 Rows.resolvesRow.domain false) (Rows.resolvesSpec.post enc Try.prog Try.f3 false true false false) := by
  refine returnsInHanded_of_change (C := Try.checked) Try.ownR started (by kernel_rfl) Try.func3
    (ChangeSpec.witness6 (enc := enc) (C := Try.checked) false ⟨#[], #[.slice none 0 0], []⟩ 8 (by kernel_rfl) (by kernel_rfl) (by kernel_rfl) (by kernel_rfl)) ?_
  intro W base args ds gs before hval0 hW _ _
  have hval : ∀ (j : Nat) t v, Try.f3.params[j]? = some t → args[j]? = some v → Value.okWide Try.prog W .any base t v := hval0
  have hW' := hW
  obtain ⟨p, q, hA0, hV, rfl, _, _⟩ := hW
  have hA : DataW.TrodAll enc Try.prog W 0 (fun _ => true) true Try.f3.params.toList args.toList ds p := hA0
  rw [Try.params3] at hA hval
  obtain ⟨v0, d0, rfl, rfl, h0⟩ := trodAll_one hA
  obtain ⟨rfl, rfl⟩ := trodVars_none hV
  obtain ⟨a0, len, cap, rfl⟩ := okWide_slice Try.underlying22 (hval 0 22 v0 rfl rfl)
  have h0k := h0
  obtain ⟨fuel, hf⟩ := h0
  clear hA0 hval0
  simp only [List.append_nil] at hW'
  have hlt : ∀ x ∈ p, x.block < W.heap.size := fun x hx => by simpa using hW'.lt x hx
  have fin : ∀ (fs : List (List UInt8)), StrsIn (fun _ => True) W (.slice a0 len cap) fs → fs.length ≤ 9223372036854775807 → Calls Try.checked.prog 3 #[.slice a0 len cap] W fun e W' => ∃ v, e = Ending.returned v ∧ Rows.resolvesSpec.post enc Try.checked.prog Try.f3 false true false false W #[.slice a0 len cap] v W' := fun fs hs hn => by
    refine (resolves_any _ _ fs W hs hn).mono ?_
    rintro e W' ⟨rfl, bel⟩
    have e1 : Rows.resolvesSpec.fn H ([d0] ++ []) = { results := [.lit (.bool true)], args := [d0] } := rfl
    refine ⟨_, rfl, _, _, _, [] ++ [], p, [], hW', ?_, ?_, by rw [e1]; rfl, bel.frame _, fun h => by cases h⟩
    · rw [e1]; exact trodAll_mk1 (shut_bool Try.underlying4 true)
    · rw [e1]; exact trodAll_mk1 (Below.trod Try.laidOutR (by kernel_rfl) (of_decide_eq_true (by kernel_rfl)) h0k bel hlt)
  rcases open_strings Try.underlying22 Try.underlying9 Try.cellsStr hf with ⟨hcs, hx⟩ | ⟨a, len', cap', ss, hcs, _, hl, hm, hz, hx, hcell, -⟩
  · simp [Value.cells] at hcs
    obtain ⟨rfl, rfl, rfl⟩ := hcs
    exact fin [] (Or.inr ⟨rfl, _, _, rfl⟩) (by simp)
  · simp [Value.cells] at hcs
    obtain ⟨rfl, rfl, rfl⟩ := hcs
    simp only [Prod.mk.injEq] at hx
    simp only [if_true] at hz
    have hp := hx.2
    refine fin ((ss.take len).map (·.data.toList)) (strs_in W a len cap ss hl hm hz hcell (fun h0 => ?_)) ?_
    · refine hlt (.cell a.block a.off) ?_
      rw [hp]
      exact MemPlace.mem_row.2 ⟨0, by omega, by simp⟩
    · have : len ≤ maxLen := by omega
      unfold maxLen at this
      simp
      omega

theorem resolves_said : Rows.ResolvesSaid :=
  OpenClaim.holds_of_wide 3 Try.f3 rfl rfl rfl rfl rfl rfl rfl ⟨rfl, rfl, rfl, rfl, rfl⟩ rfl rfl rfl rfl rfl (by kernel_rfl) Try.func3 (by kernel_rfl)
    (of_decide_eq_true (by kernel_rfl)) (by unfold Func.isWrapper; first | (rw [if_pos (by decide +kernel)]; kernel_rfl) | (rw [if_neg (by decide +kernel)]; exact ⟨rfl, rfl⟩))
    (fun os started H enc _ => resolves_lifted os started H enc)

end Go.Proofs.Ytfldcmdhneegmaa

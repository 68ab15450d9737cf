/-
  THE LAW Canon: the row, and the card.
-/
import Derived.Test.YtfldcmdhneegmaaDoorWit
import Derived.Test.YtfldcmdhneegmaaDoorCards
import Derived.Test.YtfldcmdhneegmaaDoorTie
import Derived.ProofKit
import Derived.OpenShut
import Derived.Deep.DeepHandedRow
import Derived.Deep.DeepWitnessRowRef
namespace Go.Proofs.YtfldcmdhneegmaaDoor
open Go.ChangeShapes Go.WideShapes Go.ChangeAt Go.RowKit Go.Lib Go.Shelf
open Go.ChangeMaps (open_string shut_string)

set_option maxRecDepth 100000 in
/-- WHAT THE WALK GIVES, FOR EVERY ARGUMENT AND EVERY WORLD THAT HOLDS THE VARIABLES. -/
theorem canon_contract (H : Type) (enc : TypeId × Value → H) (W : World) (base : Nat) (args : Array Value) (ds gs : List (DataW H)) (before : List MemPlace)
    (hval : ∀ (j : Nat) t v, Tryd.f6.params[j]? = some t → args[j]? = some v → Value.okWide Tryd.prog W .any base t v)
    (hW : DataW.Whole enc Tryd.prog Tryd.f6.params.toList Rows.canonSpec.vars false W args.toList ds gs before) (hL : laidMetH Tryd.prog Rows.canonRow.laid W) :
    Calls Tryd.prog 6 args W fun e W' => ∃ v, e = .returned v ∧ Rows.canonSpec.post enc Tryd.prog Tryd.f6 false true false false W args v W' := by
  have hW' := hW
  obtain ⟨p, q, hA0, hV, rfl, hfz, hnd⟩ := hW
  have hA : DataW.TrodAll enc Tryd.prog W 0 (fun _ => true) true Tryd.f6.params.toList args.toList ds p := hA0
  rw [Tryd.params6] at hA hval
  obtain ⟨v0, d0, rfl, rfl, h0⟩ := trodAll_one hA
  obtain ⟨rfl, rfl⟩ := trodVars_none hV
  obtain ⟨s, rfl, rfl, rfl, ws⟩ := open_string Tryd.underlying9 (hval 0 9 v0 rfl rfl) h0
  clear hA0 hV hval
  have hm : s.size ≤ 9223372036854775807 := by
    have h := ws
    unfold maxLen at h
    omega
  refine (canon_any s W (env_canon hL) hm).mono ?_
  rintro e W' ⟨rfl, bel⟩
  have e1 : Rows.canonSpec.fn H ([.lit (.string s.data.toList)] ++ []) = { results := [.lit (.bool true)], args := [.lit (.string s.data.toList)] } := rfl
  refine ⟨_, rfl, _, _, _, [], [], [], hW', ?_, ?_, ?_, bel.frame _, fun h => by cases h⟩
  · rw [e1]; exact trodAll_mk1 (shut_bool Tryd.underlying4 true)
  · rw [e1]; exact trodAll_mk1 (shut_string Tryd.underlying9 ws)
  · rw [e1]; rfl

/-! ### A WORLD FOR THE WITNESS: the settled one with three blocks more, the variables holding what their initialisers lay -/
set_option maxRecDepth 100000 in
theorem piece_small (os : Os) : LaidIn Tryd.prog ((layAll (World.settled Tryd.prog os).heap.size (World.holding Tryd.prog os ⟨letterBlocks (World.settled Tryd.prog os).heap.size, #[], []⟩)).forCall (fun _ _ => 0) ⟨#[], #[.string ⟨#[]⟩], []⟩).memory [("math/bits.deBruijn32tab", Rows.laid_math_bits_deBruijn32tab), ("math/bits.deBruijn64tab", Rows.laid_math_bits_deBruijn64tab), ("internal/strconv.uint64pow10", Rows.laid_internal_strconv_uint64pow10), ("unicode.properties", Rows.laid_unicode_properties)] [6, 7, 5, 0] :=
  LaidIn.of_run [6, 7, 5, 0] 8 (by kernel_rfl) (by kernel_rfl) (by kernel_rfl) (by kernel_rfl)
set_option maxRecDepth 100000 in
theorem canon_met (os : Os) : laidMetH Tryd.prog Rows.canonRow.laid ((layAll (World.settled Tryd.prog os).heap.size (World.holding Tryd.prog os ⟨letterBlocks (World.settled Tryd.prog os).heap.size, #[], []⟩)).forCall (fun _ _ => 0) ⟨#[], #[.string ⟨#[]⟩], []⟩).memory := by
  refine laidMetH_of_parts ?_ (by kernel_rfl)
  have h := ((piece_small os).append (piece_letter os) (by kernel_rfl)).met
  rw [← Pinned.letter_eq] at h
  exact h

set_option maxRecDepth 100000 in
theorem canon_witness (os : Os) {H : Type} (enc : TypeId × Value → H) :
    (OpenSpec.ofChange Rows.canonSpec).preRow enc Tryd.prog Tryd.f6 Rows.canonRow.domain false Rows.canonRow.laid ((layAll (World.settled Tryd.prog os).heap.size (World.holding Tryd.prog os ⟨letterBlocks (World.settled Tryd.prog os).heap.size, #[], []⟩)).forCall (fun _ _ => 0) ⟨#[], #[.string ⟨#[]⟩], []⟩).memory #[.string ⟨#[]⟩] := by
  have hw : (DataW.whole enc Tryd.prog ((layAll (World.settled Tryd.prog os).heap.size (World.holding Tryd.prog os ⟨letterBlocks (World.settled Tryd.prog os).heap.size, #[], []⟩)).forCall (fun _ _ => 0) ⟨#[], #[.string ⟨#[]⟩], []⟩).memory Tryd.f6.params.toList Rows.canonSpec.vars false #[Value.string ⟨#[]⟩].toList 8).map (fun x => (x.1, x.2.1)) = some ([.lit (.string [])], []) := by kernel_rfl
  obtain ⟨⟨x1, x2, x3⟩, hx, hx1⟩ := Option.map_eq_some_iff.1 hw
  simp only [Prod.mk.injEq] at hx1
  obtain ⟨rfl, rfl⟩ := hx1
  exact OpenSpec.preRow_of_cond 8 hx (by kernel_rfl) (fun k hk => by cases hk) (by kernel_rfl) (canon_met os)

set_option maxRecDepth 100000 in
set_option maxHeartbeats 2000000 in
theorem canon_lifted (os : Os) (started : os.Started) (H : Type) (enc : TypeId × Value → H) (F : Stop.Interp) :
    ReturnsInHanded {} Tryd.checked os 6 .any ((OpenSpec.ofChange Rows.canonSpec).preRow enc Tryd.prog Tryd.f6 Rows.canonRow.domain false Rows.canonRow.laid) (((OpenSpec.ofChange Rows.canonSpec).at F).post enc Tryd.prog Tryd.f6 false true false false) := by
  refine returnsInHanded_of_row (C := Tryd.checked) (s := OpenSpec.ofChange Rows.canonSpec) Tryd.own started (by kernel_rfl) Tryd.func6
    (witness_row_atRef (enc := enc) (C := Tryd.checked) false (layAll (World.settled Tryd.prog os).heap.size (World.holding Tryd.prog os ⟨letterBlocks (World.settled Tryd.prog os).heap.size, #[], []⟩)) #[.string ⟨#[]⟩] rfl (by kernel_rfl) (by kernel_rfl) (by kernel_rfl) (canon_witness os enc)) ?_
  intro W base args ds gs before hval hW _ _ _ hL _ _
  exact canon_contract H enc W base args ds gs before hval hW hL

set_option maxRecDepth 100000 in
theorem canon_said : Rows.CanonSaid :=
  OpenClaim.holds_of_cond 6 Tryd.f6 rfl rfl rfl rfl rfl rfl rfl ⟨rfl, rfl, rfl, rfl, rfl⟩ rfl rfl rfl rfl rfl (by kernel_rfl) Tryd.func6 (by kernel_rfl)
    (of_decide_eq_true (by kernel_rfl)) (by unfold Func.isWrapper; first | (rw [if_pos (by decide +kernel)]; kernel_rfl) | (rw [if_neg (by decide +kernel)]; exact ⟨rfl, rfl⟩))
    (fun os started H enc _ F => by rw [OpenClaim.pre_eq_preRow]; exact canon_lifted os started H enc F)

theorem canon_plain (f : FuncId) (fn : Func) (hf : Tryd.pinned.checked.prog.funcNamed "spotter/spotterkeep.Canon" = some f) (hfn : Tryd.pinned.checked.prog.funcs[f]? = some fn) :
    true = Tryd.pinned.checked.prog.looks [] ∧ ∀ (j : Nat) t, fn.params[j]? = some t → Tryd.pinned.checked.prog.wantsStandIn t = false := by
  obtain rfl : f = 6 := Option.some.inj ((show Tryd.prog.funcNamed "spotter/spotterkeep.Canon" = some 6 by kernel_rfl).symm.trans hf) |>.symm
  obtain rfl : fn = Tryd.f6 := (Option.some.inj (Tryd.func6.symm.trans hfn)).symm
  refine ⟨by kernel_rfl, fun j t ht => ?_⟩
  rw [Tryd.params6] at ht
  obtain rfl : t = 9 := by simpa using Array.mem_of_getElem? ht
  exact (show Tryd.prog.wantsStandIn 9 = false by kernel_rfl)

theorem canon_card : Rows.CanonCardSaid :=
  Claim7.holds_tied_plain_at .later [] _ _ _ _ canon_said (fun _ h => by cases h) (by kernel_rfl) (fun _ h => by cases h) canon_row_tie rfl ⟨rfl, rfl⟩ (by kernel_rfl) rfl canon_plain (by kernel_rfl)

end Go.Proofs.YtfldcmdhneegmaaDoor

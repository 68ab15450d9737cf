import Derived.Test.YtfldcmdhneegmaaGreatDoorZ38
import Derived.Test.YtfldcmdhneegmaaGreatDoorZ43
import Derived.Test.YtfldcmdhneegmaaGreatDoorOpA
import Derived.ProofKit
import Derived.OpenShut
import Derived.Deep.DeepHandedRow
import Derived.Deep.DeepWitnessRowRef
import Derived.Carry

/-
  THE LAW Spots: what is handed in, and a start for the witness.
-/
namespace Go.Proofs.YtfldcmdhneegmaaGreatDoor
open Go.ChangeShapes Go.WideShapes Go.ChangeAt Go.RowKit Go.Lib Go.Shelf
open Go.ChangeMaps (open_string shut_string)

theorem Tryz.laidOutS : laidOutB Tryz.prog = true := by kernel_rfl
theorem env_spots {W : World} (h : laidMetH Tryz.prog Rows.spotsRow.laid W) : EnvS W := by
  obtain ⟨h1, h2⟩ := h
  exact env_list h1 h2
set_option maxRecDepth 100000 in
theorem spots_contract (H : Type) (enc : TypeId × Value → H) (W : World) (base : Nat) (args : Array Value) (ds gs : List (DataW H)) (before : List MemPlace)
    (hval : ∀ (j : Nat) t v, Tryz.f3.params[j]? = some t → args[j]? = some v → Value.okWide Tryz.prog W .any base t v)
    (hW : DataW.Whole enc Tryz.prog Tryz.f3.params.toList Rows.spotsSpec.vars false W args.toList ds gs before) (hL : laidMetH Tryz.prog Rows.spotsRow.laid W) :
    Calls Tryz.prog 3 args W fun e W' => ∃ v, e = .returned v ∧ Rows.spotsSpec.post enc Tryz.prog Tryz.f3 false true false false W args v W' := by
  have hW' := hW
  obtain ⟨p, q, hA0, hV, rfl, hfz, hnd⟩ := hW
  have hA : DataW.TrodAll enc Tryz.prog W 0 (fun _ => true) true Tryz.f3.params.toList args.toList ds p := hA0
  rw [Tryz.params3] at hA hval
  obtain ⟨v0, v1, v2, d0, d1, d2, p0, p1, p2, rfl, rfl, rfl, h0, h1, h2⟩ := trodAll_three hA
  obtain ⟨rfl, rfl⟩ := trodVars_none hV
  obtain ⟨s, rfl, rfl, rfl, ws⟩ := open_string Tryz.underlying9 (hval 0 9 v0 rfl rfl) h0
  obtain ⟨s', rfl, rfl, rfl, ws'⟩ := open_string Tryz.underlying9 (hval 1 9 v1 rfl rfl) h1
  obtain ⟨a0, len, cap, rfl⟩ := okWide_slice Tryz.underlying22 (hval 2 22 v2 rfl rfl)
  have hlt : ∀ x ∈ p2, x.block < W.heap.size := fun x hx => by
    have := hW'.lt x (by simp [hx])
    simpa using this
  obtain ⟨l, hlen, hl, ht⟩ := ops_in h2
  clear hA0 hV hval
  have hm : s.size ≤ 9223372036854775807 := by
    have h := ws
    unfold maxLen at h
    omega
  have hm' : s'.size ≤ 9223372036854775807 := by
    have h := ws'
    unfold maxLen at h
    omega
  subst hlen
  refine (spots_any s s' a0 cap l W (env_spots hL) hm hm' hl ht).mono ?_
  rintro e W' ⟨rfl, bel⟩
  have e1 : Rows.spotsSpec.fn H ([.lit (.string s.data.toList), .lit (.string s'.data.toList), d2] ++ []) = { results := [.lit (.bool true)], args := [.lit (.string s.data.toList), .lit (.string s'.data.toList), d2] } := rfl
  refine ⟨_, rfl, _, _, _, [], [] ++ ([] ++ p2), [], hW', ?_, ?_, ?_, bel.frame _, fun h => by cases h⟩
  · rw [e1]; exact trodAll_mk1 (shut_bool Tryz.underlying4 true)
  · rw [e1]; exact trodAll_mk3 (shut_string Tryz.underlying9 ws) (shut_string Tryz.underlying9 ws') (Below.trod Tryz.laidOutS (by kernel_rfl) (of_decide_eq_true (by kernel_rfl)) h2 bel hlt)
  · rw [e1]; rfl

set_option maxRecDepth 100000 in
theorem spots_letter (os : Os) : LaidIn Tryz.prog ((layAll (World.settled Tryz.prog os).heap.size (World.holding Tryz.prog os ⟨letterBlocks (World.settled Tryz.prog os).heap.size, #[], []⟩)).forCall (fun _ _ => 0) ⟨#[], #[.string ⟨#[]⟩, .string ⟨#[]⟩, .slice none 0 0], []⟩).memory [("unicode.Letter", rtabData letterT)] [1, (World.settled Tryz.prog default).heap.size + 2, (World.settled Tryz.prog default).heap.size, (World.settled Tryz.prog default).heap.size + 1] :=
  laidIn_rtab (ρ := Tryz.lays200_ren) { Tryz.lays200 with } Tryz.xL (by kernel_rfl) (by kernel_rfl) letterT ((World.settled Tryz.prog default).heap.size + 2) (World.settled Tryz.prog default).heap.size ((World.settled Tryz.prog default).heap.size + 1) 262 265
    (by kernel_rfl) (by kernel_rfl) (by kernel_rfl) (by kernel_rfl) (by kernel_rfl) (of_decide_eq_true (by kernel_rfl)) (of_decide_eq_true (by kernel_rfl)) (of_decide_eq_true (by kernel_rfl))

/-! ### A WORLD FOR THE WITNESS: the settled one with three blocks more, the variables holding what their initialisers lay -/
set_option maxRecDepth 100000 in
theorem spots_five (os : Os) : LaidIn Tryz.prog ((layAll (World.settled Tryz.prog os).heap.size (World.holding Tryz.prog os ⟨letterBlocks (World.settled Tryz.prog os).heap.size, #[], []⟩)).forCall (fun _ _ => 0) ⟨#[], #[.string ⟨#[]⟩, .string ⟨#[]⟩, .slice none 0 0], []⟩).memory [("math/bits.deBruijn32tab", Rows.laid_math_bits_deBruijn32tab), ("math/bits.deBruijn64tab", Rows.laid_math_bits_deBruijn64tab), ("internal/strconv.uint64pow10", Rows.laid_internal_strconv_uint64pow10), ("unicode/utf8.acceptRanges", Rows.laid_unicode_utf8_acceptRanges), ("unicode.properties", Rows.laid_unicode_properties)] [6, 7, 5, 3, 0] :=
  LaidIn.of_run [6, 7, 5, 3, 0] 8 (by kernel_rfl) (by kernel_rfl) (by kernel_rfl) (by kernel_rfl)
set_option maxRecDepth 100000 in
theorem spots_first (os : Os) : LaidIn Tryz.prog ((layAll (World.settled Tryz.prog os).heap.size (World.holding Tryz.prog os ⟨letterBlocks (World.settled Tryz.prog os).heap.size, #[], []⟩)).forCall (fun _ _ => 0) ⟨#[], #[.string ⟨#[]⟩, .string ⟨#[]⟩, .slice none 0 0], []⟩).memory [("unicode/utf8.first", Rows.laid_unicode_utf8_first)] [2] :=
  LaidIn.of_run [2] 8 (by kernel_rfl) (by kernel_rfl) (by kernel_rfl) (by kernel_rfl)
set_option maxRecDepth 100000 in
theorem spots_met (os : Os) : laidMetH Tryz.prog Rows.spotsRow.laid ((layAll (World.settled Tryz.prog os).heap.size (World.holding Tryz.prog os ⟨letterBlocks (World.settled Tryz.prog os).heap.size, #[], []⟩)).forCall (fun _ _ => 0) ⟨#[], #[.string ⟨#[]⟩, .string ⟨#[]⟩, .slice none 0 0], []⟩).memory := by
  refine laidMetH_of_parts ?_ (by kernel_rfl)
  have h := (((spots_five os).append (spots_letter os) (by kernel_rfl)).append (spots_first os) (by kernel_rfl)).met
  rw [← Pinned.letter_eq] at h
  exact h

set_option maxRecDepth 100000 in
theorem spots_witness (os : Os) {H : Type} (enc : TypeId × Value → H) :
    (OpenSpec.ofChange Rows.spotsSpec).preRow enc Tryz.prog Tryz.f3 Rows.spotsRow.domain false Rows.spotsRow.laid ((layAll (World.settled Tryz.prog os).heap.size (World.holding Tryz.prog os ⟨letterBlocks (World.settled Tryz.prog os).heap.size, #[], []⟩)).forCall (fun _ _ => 0) ⟨#[], #[.string ⟨#[]⟩, .string ⟨#[]⟩, .slice none 0 0], []⟩).memory #[.string ⟨#[]⟩, .string ⟨#[]⟩, .slice none 0 0] := by
  have hw : (DataW.whole enc Tryz.prog ((layAll (World.settled Tryz.prog os).heap.size (World.holding Tryz.prog os ⟨letterBlocks (World.settled Tryz.prog os).heap.size, #[], []⟩)).forCall (fun _ _ => 0) ⟨#[], #[.string ⟨#[]⟩, .string ⟨#[]⟩, .slice none 0 0], []⟩).memory Tryz.f3.params.toList Rows.spotsSpec.vars false #[Value.string ⟨#[]⟩, Value.string ⟨#[]⟩, Value.slice none 0 0].toList 8).map (fun x => (x.1, x.2.1)) = some ([.lit (.string []), .lit (.string []), .nil], []) := by kernel_rfl
  obtain ⟨⟨x1, x2, x3⟩, hx, hx1⟩ := Option.map_eq_some_iff.1 hw
  simp only [Prod.mk.injEq] at hx1
  obtain ⟨rfl, rfl⟩ := hx1
  exact OpenSpec.preRow_of_cond 8 hx (by kernel_rfl) (fun k hk => by cases hk) (by kernel_rfl) (spots_met os)

set_option maxRecDepth 100000 in
set_option maxHeartbeats 2000000 in
theorem spots_lifted (os : Os) (started : os.Started) (H : Type) (enc : TypeId × Value → H) (F : Stop.Interp) :
    ReturnsInHanded {} Tryz.checked os 3 .any ((OpenSpec.ofChange Rows.spotsSpec).preRow enc Tryz.prog Tryz.f3 Rows.spotsRow.domain false Rows.spotsRow.laid) (((OpenSpec.ofChange Rows.spotsSpec).at F).post enc Tryz.prog Tryz.f3 false true false false) := by
  refine returnsInHanded_of_row (C := Tryz.checked) (s := OpenSpec.ofChange Rows.spotsSpec) Tryz.own started (by kernel_rfl) Tryz.func3
    (witness_row_atRef (enc := enc) (C := Tryz.checked) false (layAll (World.settled Tryz.prog os).heap.size (World.holding Tryz.prog os ⟨letterBlocks (World.settled Tryz.prog os).heap.size, #[], []⟩)) #[.string ⟨#[]⟩, .string ⟨#[]⟩, .slice none 0 0] rfl (by kernel_rfl) (by kernel_rfl) (by kernel_rfl) (spots_witness os enc)) ?_
  intro W base args ds gs before hval hW _ _ _ hL _ _
  exact spots_contract H enc W base args ds gs before hval hW hL

end Go.Proofs.YtfldcmdhneegmaaGreatDoor

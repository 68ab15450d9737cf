import Derived.Test.YtfldcmdhneegmaaGreatDoorZ38
import Derived.Test.YtfldcmdhneegmaaGreatDoorGoE
import Derived.ProofKit
import Derived.OpenShut
import Derived.Deep.Slices
import Derived.Deep.DeepHandedRow
import Derived.Deep.DeepWitnessRowRef
import Derived.Carry

/-
  THE LAW Goes: what is handed in, and a start for the witness.
-/
namespace Go.Proofs.YtfldcmdhneegmaaGreatDoor
open Go.ChangeShapes Go.WideShapes Go.ChangeAt Go.RowKit Go.Lib Go.Shelf Go.Deep
open Go.ChangeMaps (open_string shut_string)

theorem list_three {α : Type} {l : List α} (h : l.length = 3) : ∃ a b c, l = [a, b, c] := by
  match l, h with
  | [a, b, c], _ => exact ⟨a, b, c, rfl⟩
theorem Tryz.cellsEv : Tryz.prog.cellsOf 57 = 3 := by kernel_rfl
theorem Tryz.cellsEr : Tryz.prog.cellsOf 21 = 1 := by kernel_rfl
theorem Tryz.cellsEl : Tryz.prog.cellsOf 2 = 1 := by kernel_rfl
/-- Cells that read as an event. -/
theorem ev_cells {H : Type} {enc : TypeId × Value → H} {W : World} {n : Nat} {cs : List Value} {x : DataW H × List MemPlace} (h : DataW.trod enc Tryz.prog W 0 (fun _ => true) true n 57 cs = some x) :
    ∃ y : KV, cs = [.int .i32 y.1, .int .i64 y.2.1, .int .i64 y.2.2] := by
  obtain ⟨xs, k, -, -, hl, hxl, hf⟩ := DataW.trod_struct Tryz.underlying57 h
  rw [Tryz.cellsEv] at hl
  obtain ⟨v0, v1, v2, rfl⟩ := list_three hl
  obtain ⟨y0, y1, y2, rfl⟩ := list_three (l := xs) (by rw [hxl]; rfl)
  have g0 : DataW.trod enc Tryz.prog W 0 (fun _ => true) true k 21 [v0] = some y0 := by
    have := hf 0 _ rfl
    simpa [Tryz.cellsEr] using this
  have g1 : DataW.trod enc Tryz.prog W 0 (fun _ => true) true k 2 [v1] = some y1 := by
    have := hf 1 _ rfl
    simpa [Tryz.cellsEl, Tryz.cellsEr] using this
  have g2 : DataW.trod enc Tryz.prog W 0 (fun _ => true) true k 2 [v2] = some y2 := by
    have := hf 2 _ rfl
    simpa [Tryz.cellsEl, Tryz.cellsEr] using this
  obtain ⟨n0, e0, -, -⟩ := DataW.trod_int Tryz.underlying21 g0
  obtain ⟨n1, e1, -, -⟩ := DataW.trod_int Tryz.underlying2 g1
  obtain ⟨n2, e2, -, -⟩ := DataW.trod_int Tryz.underlying2 g2
  simp only [List.cons.injEq, and_true] at e0 e1 e2
  subst e0 e1 e2
  exact ⟨(n0, n1, n2), rfl⟩
theorem evs_in {H : Type} {enc : TypeId × Value → H} {W : World} {a0 : Option Addr} {len cap : Nat} {d : DataW H} {ps : List MemPlace} (h : DataW.Trod enc Tryz.prog W 0 (fun _ => true) true 53 (.slice a0 len cap) d ps) :
    ∃ l : List KV, l.length = len ∧ EvsIn W (.slice a0 len cap) l ∧ len ≤ cap ∧ len ≤ 9223372036854775807 := by
  obtain ⟨fuel, hf⟩ := h
  rcases open_slice Tryz.underlying53 hf with ⟨hcs, hx⟩ | ⟨a, len', cap', m, n, D, Pl, hcs, -, hl, hm, hmm, hx, hall⟩
  · simp [Value.cells] at hcs
    obtain ⟨rfl, rfl, rfl⟩ := hcs
    exact ⟨[], rfl, ⟨⟨_, _, rfl⟩, fun i hi => by simp at hi⟩, by omega, by omega⟩
  · simp [Value.cells] at hcs
    obtain ⟨rfl, rfl, rfl⟩ := hcs
    simp only [if_true] at hmm
    subst hmm
    rw [Tryz.cellsEv] at hall
    have each : ∀ i, i < len → ∃ y : KV, W.cell? (a.add (i * 3)) = some (.int .i32 y.1) ∧ W.cell? (a.add (i * 3 + 1)) = some (.int .i64 y.2.1) ∧ W.cell? (a.add (i * 3 + 2)) = some (.int .i64 y.2.2) := fun i hi => by
      obtain ⟨cs', k1, k2⟩ := hall i (by omega)
      obtain ⟨y, rfl⟩ := ev_cells k2
      obtain ⟨-, -, hc⟩ := World.cells?_some k1
      have e0 := hc 0 (by omega)
      have e1 := hc 1 (by omega)
      have e2 := hc 2 (by omega)
      rw [add_add] at e0 e1 e2
      exact ⟨y, by simpa using e0, by simpa using e1, by simpa using e2⟩
    obtain ⟨f, hf⟩ := choose_lt each
    refine ⟨(List.range len).map f, by simp, ⟨⟨some a, m, by simp⟩, fun i hi => ?_⟩, ?_, ?_⟩
    · have hi' : i < len := by simpa using hi
      obtain ⟨c0, c1, c2⟩ := hf i hi'
      obtain ⟨b, off, spot⟩ := a
      have hspot : spot = none := by
        have := World.cell?_spot (hf 0 (by omega)).1
        simpa [Addr.add] using this
      subst hspot
      have hb : b < W.heap.size := World.block_lt_of_cell? W _ (by rw [Go.WideShapes.add_plain] at c0; exact c0)
      rw [Go.WideShapes.add_plain] at c0 c1 c2
      refine ⟨b, off, m, by simp, hb, ?_⟩
      simp only [List.getElem_map, List.getElem_range]
      exact ⟨c0, by rw [← Nat.add_assoc] at c1; exact c1, by rw [← Nat.add_assoc] at c2; exact c2⟩
    · omega
    · unfold maxLen at hm
      omega

theorem Tryz.laidOutG : laidOutB Tryz.prog = true := by kernel_rfl
theorem env_goes {W : World} (h : laidMetH Tryz.prog Rows.goesRow.laid W) : EnvG W := by
  obtain ⟨h1, h2⟩ := h
  have h1' : laidMet Tryz.prog [("unicode.properties", Rows.laid_unicode_properties), ("unicode.Letter", Rows.laid_unicode_Letter)] W := h1
  exact ⟨letters_of (props_of_head h1') (letter_of_reads (laidMet.reads h1' (.tail _ (.head _)))), err_of_handles h2⟩
set_option maxRecDepth 100000 in
theorem goes_contract (H : Type) (enc : TypeId × Value → H) (W : World) (base : Nat) (args : Array Value) (ds gs : List (DataW H)) (before : List MemPlace)
    (hval : ∀ (j : Nat) t v, Tryz.f8.params[j]? = some t → args[j]? = some v → Value.okWide Tryz.prog W .any base t v)
    (hW : DataW.Whole enc Tryz.prog Tryz.f8.params.toList Rows.goesSpec.vars false W args.toList ds gs before) (hL : laidMetH Tryz.prog Rows.goesRow.laid W) :
    Calls Tryz.prog 8 args W fun e W' => ∃ v, e = .returned v ∧ Rows.goesSpec.post enc Tryz.prog Tryz.f8 false true false false W args v W' := by
  have hW' := hW
  obtain ⟨p, q, hA0, hV, rfl, hfz, hnd⟩ := hW
  have hA : DataW.TrodAll enc Tryz.prog W 0 (fun _ => true) true Tryz.f8.params.toList args.toList ds p := hA0
  rw [Tryz.params8] at hA hval
  obtain ⟨v0, v1, d0, d1, p0, p1, rfl, rfl, rfl, h0, h1⟩ := trodAll_two hA
  obtain ⟨rfl, rfl⟩ := trodVars_none hV
  obtain ⟨window, rfl, rfl, rfl, ww⟩ := open_int Tryz.underlying2 (hval 0 2 v0 rfl rfl) h0
  obtain ⟨a0, len, cap, rfl⟩ := okWide_slice Tryz.underlying53 (hval 1 53 v1 rfl rfl)
  have hlt : ∀ x ∈ p1, x.block < W.heap.size := fun x hx => by
    have := hW'.lt x (by simp [hx])
    simpa using this
  obtain ⟨l, hlen, hl, hcap, hmx⟩ := evs_in h1
  clear hA0 hV hval
  subst hlen
  have hr : -9223372036854775808 ≤ window ∧ window ≤ 9223372036854775807 := by
    have h := ww
    simp [Lit.wf] at h
    have e0 : IntKind.i64.min = -9223372036854775808 := by rfl
    have e : IntKind.i64.max = 9223372036854775807 := by rfl
    have h' : IntKind.i64.min ≤ window ∧ window ≤ IntKind.i64.max := h
    rw [e0, e] at h'
    exact h'
  refine (goes_any window a0 cap l W (env_goes hL) hr.1 hr.2 hcap hl hmx).mono ?_
  rintro e W' ⟨rfl, bel⟩
  have e1 : Rows.goesSpec.fn H ([.lit (.int .i64 window), d1] ++ []) = { results := [.lit (.bool true)], args := [.lit (.int .i64 window), d1] } := rfl
  refine ⟨_, rfl, _, _, _, [], [] ++ p1, [], hW', ?_, ?_, ?_, bel.frame _, fun h => by cases h⟩
  · rw [e1]; exact trodAll_mk1 (shut_bool Tryz.underlying4 true)
  · rw [e1]; exact trodAll_mk2 (shut_int Tryz.underlying2 ww) (Below.trod Tryz.laidOutG (by kernel_rfl) (of_decide_eq_true (by kernel_rfl)) h1 bel hlt)
  · rw [e1]; rfl

set_option maxRecDepth 100000 in
theorem goes_letter (os : Os) : LaidIn Tryz.prog ((layAll (World.settled Tryz.prog os).heap.size (World.holding Tryz.prog os ⟨letterBlocks (World.settled Tryz.prog os).heap.size, #[], []⟩)).forCall (fun _ _ => 0) ⟨#[], #[.int .i64 0, .slice none 0 0], []⟩).memory [("unicode.Letter", rtabData letterT)] [1, (World.settled Tryz.prog default).heap.size + 2, (World.settled Tryz.prog default).heap.size, (World.settled Tryz.prog default).heap.size + 1] :=
  laidIn_rtab (ρ := Tryz.lays200_ren) { Tryz.lays200 with } Tryz.xL (by kernel_rfl) (by kernel_rfl) letterT ((World.settled Tryz.prog default).heap.size + 2) (World.settled Tryz.prog default).heap.size ((World.settled Tryz.prog default).heap.size + 1) 262 265
    (by kernel_rfl) (by kernel_rfl) (by kernel_rfl) (by kernel_rfl) (by kernel_rfl) (of_decide_eq_true (by kernel_rfl)) (of_decide_eq_true (by kernel_rfl)) (of_decide_eq_true (by kernel_rfl))

/-! ### A WORLD FOR THE WITNESS: the settled one with three blocks more, the variables holding what their initialisers lay -/
set_option maxRecDepth 100000 in
theorem goes_props (os : Os) : LaidIn Tryz.prog ((layAll (World.settled Tryz.prog os).heap.size (World.holding Tryz.prog os ⟨letterBlocks (World.settled Tryz.prog os).heap.size, #[], []⟩)).forCall (fun _ _ => 0) ⟨#[], #[.int .i64 0, .slice none 0 0], []⟩).memory [("unicode.properties", Rows.laid_unicode_properties)] [0] :=
  LaidIn.of_run [0] 8 (by kernel_rfl) (by kernel_rfl) (by kernel_rfl) (by kernel_rfl)
set_option maxRecDepth 100000 in
theorem goes_met (os : Os) : laidMetH Tryz.prog Rows.goesRow.laid ((layAll (World.settled Tryz.prog os).heap.size (World.holding Tryz.prog os ⟨letterBlocks (World.settled Tryz.prog os).heap.size, #[], []⟩)).forCall (fun _ _ => 0) ⟨#[], #[.int .i64 0, .slice none 0 0], []⟩).memory := by
  refine laidMetH_of_parts ?_ (by kernel_rfl)
  have h := ((goes_props os).append (goes_letter os) (by kernel_rfl)).met
  rw [← Pinned.letter_eq] at h
  exact h

set_option maxRecDepth 100000 in
theorem goes_witness (os : Os) {H : Type} (enc : TypeId × Value → H) :
    (OpenSpec.ofChange Rows.goesSpec).preRow enc Tryz.prog Tryz.f8 Rows.goesRow.domain false Rows.goesRow.laid ((layAll (World.settled Tryz.prog os).heap.size (World.holding Tryz.prog os ⟨letterBlocks (World.settled Tryz.prog os).heap.size, #[], []⟩)).forCall (fun _ _ => 0) ⟨#[], #[.int .i64 0, .slice none 0 0], []⟩).memory #[.int .i64 0, .slice none 0 0] := by
  have hw : (DataW.whole enc Tryz.prog ((layAll (World.settled Tryz.prog os).heap.size (World.holding Tryz.prog os ⟨letterBlocks (World.settled Tryz.prog os).heap.size, #[], []⟩)).forCall (fun _ _ => 0) ⟨#[], #[.int .i64 0, .slice none 0 0], []⟩).memory Tryz.f8.params.toList Rows.goesSpec.vars false #[Value.int .i64 0, Value.slice none 0 0].toList 8).map (fun x => (x.1, x.2.1)) = some ([.lit (.int .i64 0), .nil], []) := by kernel_rfl
  obtain ⟨⟨x1, x2, x3⟩, hx, hx1⟩ := Option.map_eq_some_iff.1 hw
  simp only [Prod.mk.injEq] at hx1
  obtain ⟨rfl, rfl⟩ := hx1
  exact OpenSpec.preRow_of_cond 8 hx (by kernel_rfl) (fun k hk => by cases hk) (by kernel_rfl) (goes_met os)

set_option maxRecDepth 100000 in
set_option maxHeartbeats 2000000 in
theorem goes_lifted (os : Os) (started : os.Started) (H : Type) (enc : TypeId × Value → H) (F : Stop.Interp) :
    ReturnsInHanded {} Tryz.checked os 8 .any ((OpenSpec.ofChange Rows.goesSpec).preRow enc Tryz.prog Tryz.f8 Rows.goesRow.domain false Rows.goesRow.laid) (((OpenSpec.ofChange Rows.goesSpec).at F).post enc Tryz.prog Tryz.f8 false true false false) := by
  refine returnsInHanded_of_row (C := Tryz.checked) (s := OpenSpec.ofChange Rows.goesSpec) Tryz.own started (by kernel_rfl) Tryz.func8
    (witness_row_atRef (enc := enc) (C := Tryz.checked) false (layAll (World.settled Tryz.prog os).heap.size (World.holding Tryz.prog os ⟨letterBlocks (World.settled Tryz.prog os).heap.size, #[], []⟩)) #[.int .i64 0, .slice none 0 0] rfl (by kernel_rfl) (by kernel_rfl) (by kernel_rfl) (goes_witness os enc)) ?_
  intro W base args ds gs before hval hW _ _ _ hL _ _
  exact goes_contract H enc W base args ds gs before hval hW hL

end Go.Proofs.YtfldcmdhneegmaaGreatDoor

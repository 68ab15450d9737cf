import Derived.Test.YtfldcmdhneegmabGreatDoorZ30
import Derived.Test.YtfldcmdhneegmabGreatDoorSvD
import Derived.Test.YtfldcmdhneegmabGreatDoorRows
import Derived.LaidHandle
import Derived.Stop.LaidErr
import Derived.Stop.Joined
import Derived.Lib.LaidRTab
import Derived.PinnedBridge
import Derived.SizedLaws
import Derived.Test.YtfldcmdhneegmabGreatDoorU1
import Derived.ProofKit
import Derived.OpenShut
import Derived.Deep.Slices
import Derived.Test.YtfldcmdhneegmabGreatDoorU2
import Derived.Deep.DeepHandedRow
import Derived.Deep.DeepWitnessRowRef
import Derived.Carry

/-
  WHAT THE ROWS' LISTS GIVE: the library's variables as the walks ask for them.
-/
namespace Go.Proofs.YtfldcmdhneegmabGreatDoor
open Go.RowKit Go.Lib Go.Shelf

theorem Tryz.own : ownKnob Tryz.prog.godebug = none := by kernel_rfl
theorem Tryz.gErr : Tryz.prog.globalNamed "errors.errorType" = some 0 := by kernel_rfl
theorem Tryz.rt : (Tryz.prog.cutTypes.find? (·.1 == "internal/reflectlite.rtype")).map (·.2) = some 286 := by kernel_rfl
theorem Tryz.oneRow : ((List.range 387).filter fun t => Tryz.prog.rowNamed t [101, 114, 114, 111, 114]) = [55] := by kernel_rfl
theorem Tryz.typesSize : Tryz.prog.types.size = 387 := by kernel_rfl
theorem Tryz.xL : RExtra Tryz.prog Tryz.lays200_ren := ⟨by kernel_rfl, by kernel_rfl, by kernel_rfl, by kernel_rfl, by kernel_rfl, by kernel_rfl, by kernel_rfl, by kernel_rfl⟩
theorem Tryz.cellsU8 : Tryz.prog.cellsOf 5 = 1 := by kernel_rfl
theorem Tryz.cellsProps : Tryz.prog.cellsOf 324 = 256 := by kernel_rfl

/-- The handle of the type error. -/
theorem err_of_handles {W : World} (h : handlesMet Tryz.prog [("errors.errorType", Rows.laid_errors_errorType)] W) : ErrType W := by
  obtain ⟨name, u, ty, e1, e2, e3, e4, e5⟩ := h _ (List.mem_singleton.2 rfl)
  have en : name = [101, 114, 114, 111, 114] := (Option.some.inj e1).symm
  subst en
  obtain rfl := Option.some.inj (Tryz.rt.symm.trans e2)
  have hm : ty ∈ (List.range 387).filter fun t => Tryz.prog.rowNamed t [101, 114, 114, 111, 114] := List.mem_filter.2 ⟨List.mem_range.2 (by rw [← Tryz.typesSize]; exact e3), e4⟩
  rw [Tryz.oneRow] at hm
  obtain rfl := List.mem_singleton.1 hm
  have hh : typeHandle Tryz.prog 55 = .pointer (some ⟨6, 55, none⟩) := by kernel_rfl
  rw [hh] at e5
  have h0 := World.var?_cell Tryz.gErr e5 0
  unfold ErrType
  simpa using h0

set_option maxRecDepth 100000 in
theorem props_eq : Rows.laid_unicode_properties = (tabData .u8 propertiesTab : DataW Unit) := by kernel_rfl
theorem props_of_head {W : World} {rest : List (String × DataW Unit)} (h : laidMet Tryz.prog (("unicode.properties", Rows.laid_unicode_properties) :: rest) W) : TabIs Tryz.prog W "unicode.properties" .u8 propertiesTab :=
  tabIs_of_head (g := 2) (t := 324) (e := 5) (zs := propertiesTab) (by kernel_rfl) (by kernel_rfl) Tryz.underlying324 Tryz.underlying5 Tryz.cellsU8 Tryz.cellsProps (by rw [← props_eq]; exact h)
theorem letter_of_reads {W : World} (h : VarReads Tryz.prog W "unicode.Letter" Rows.laid_unicode_Letter) : RVar 3 letterT W := by
  have h' : VarReads Tryz.prog W "unicode.Letter" (rtabData letterT) := by rw [← Pinned.letter_eq]; exact h
  exact rvar_of_reads { Tryz.lays200 with } Tryz.xL (by kernel_rfl) (by kernel_rfl) h'

theorem letters_of {W : World} (hp : TabIs Tryz.prog W "unicode.properties" .u8 propertiesTab) (hv : RVar 3 letterT W) : Letters W :=
  fun c W' h1 h2 hb => Tryz.unicode_IsLetter_all c W' h1 h2 (TabIs_below (g := 2) (by kernel_rfl) hp hb) (RVar_below hv hb)
theorem Tryz.cellsU64 : Tryz.prog.cellsOf 89 = 1 := by kernel_rfl
theorem Tryz.cellsPow : Tryz.prog.cellsOf 316 = 20 := by kernel_rfl
set_option maxRecDepth 100000 in
theorem pow_eq : Rows.laid_internal_strconv_uint64pow10 = (tabData .u64 pow10Tab : DataW Unit) := by kernel_rfl
theorem pow_of_head {W : World} {rest : List (String × DataW Unit)} (h : laidMet Tryz.prog (("internal/strconv.uint64pow10", Rows.laid_internal_strconv_uint64pow10) :: rest) W) : Pow10 W :=
  tabIs_of_head (g := 1) (t := 316) (e := 89) (zs := pow10Tab) (by kernel_rfl) (by kernel_rfl) Tryz.underlying316 Tryz.underlying89 Tryz.cellsU64 Tryz.cellsPow (by rw [← pow_eq]; exact h)
/-- The list. -/
theorem env_turn {W : World} (h1 : laidMet Tryz.prog [("math/bits.deBruijn32tab", Rows.laid_math_bits_deBruijn32tab), ("math/bits.deBruijn64tab", Rows.laid_math_bits_deBruijn64tab), ("internal/strconv.uint64pow10", Rows.laid_internal_strconv_uint64pow10), ("unicode.properties", Rows.laid_unicode_properties), ("unicode.Letter", Rows.laid_unicode_Letter)] W) (h2 : handlesMet Tryz.prog [("errors.errorType", Rows.laid_errors_errorType)] W) : EnvG W ∧ Pow10 W := by
  have h3 := h1.tail.tail
  exact ⟨⟨letters_of (props_of_head h3.tail) (letter_of_reads (laidMet.reads h1 (.tail _ (.tail _ (.tail _ (.tail _ (.head _))))))), err_of_handles h2⟩, pow_of_head h3⟩

end Go.Proofs.YtfldcmdhneegmabGreatDoor

/-
  A WORLD FOR THE WITNESSES: the settled one with three blocks more, the variables holding what their initialisers lay.
-/
namespace Go.Proofs.YtfldcmdhneegmabGreatDoor
open Go.RowKit Go.Lib Go.Shelf

/-- A variable's block, laid anew. -/
def putVar (h : Array Obj) (g : Nat) (cs : Array Value) : Array Obj := h.modify g fun
  | .cells _ t frozen => .cells cs t frozen
  | o => o
/-- The three blocks of unicode.Letter: its R16, its R32, its RangeTable. -/
def letterBlocks (N : Nat) : Array Obj := #[
  .cells (rgCells .u16 letterT.r16) 335, .cells (rgCells .u32 letterT.r32) 338,
  .cells #[.slice (some ⟨N, 0, none⟩) letterT.r16.size letterT.r16.size, .slice (some ⟨N + 1, 0, none⟩) letterT.r32.size letterT.r32.size, .int .i64 letterT.off] 332]
/-- The variables hold what their initialisers lay. -/
def layAll (N : Nat) (w : World) : World :=
  let h0 := putVar w.heap 2 (propertiesTab.map fun z => Value.int .u8 z).toArray
  let h1 := putVar h0 3 #[.pointer (some ⟨N + 2, 0, none⟩)]
  let h2 := putVar h1 0 #[.iface 286 (.agg #[.pointer (some ⟨6, 55, none⟩)])]
  let h5 := putVar h2 1 (pow10Tab.map fun z => Value.int .u64 z).toArray
  let h6 := putVar h5 4 #[.int .u8 0, .int .u8 1, .int .u8 28, .int .u8 2, .int .u8 29, .int .u8 14, .int .u8 24, .int .u8 3, .int .u8 30, .int .u8 22, .int .u8 20, .int .u8 15, .int .u8 25, .int .u8 17, .int .u8 4, .int .u8 8, .int .u8 31, .int .u8 27, .int .u8 13, .int .u8 23, .int .u8 21, .int .u8 19, .int .u8 16, .int .u8 7, .int .u8 26, .int .u8 12, .int .u8 18, .int .u8 6, .int .u8 11, .int .u8 5, .int .u8 10, .int .u8 9]
  let h7 := putVar h6 5 #[.int .u8 0, .int .u8 1, .int .u8 56, .int .u8 2, .int .u8 57, .int .u8 49, .int .u8 28, .int .u8 3, .int .u8 61, .int .u8 58, .int .u8 42, .int .u8 50, .int .u8 38, .int .u8 29, .int .u8 17, .int .u8 4, .int .u8 62, .int .u8 47, .int .u8 59, .int .u8 36, .int .u8 45, .int .u8 43, .int .u8 51, .int .u8 22, .int .u8 53, .int .u8 39, .int .u8 33, .int .u8 30, .int .u8 24, .int .u8 18, .int .u8 12, .int .u8 5, .int .u8 63, .int .u8 55, .int .u8 48, .int .u8 27, .int .u8 60, .int .u8 41, .int .u8 37, .int .u8 16, .int .u8 46, .int .u8 35, .int .u8 44, .int .u8 21, .int .u8 52, .int .u8 32, .int .u8 23, .int .u8 11, .int .u8 54, .int .u8 26, .int .u8 40, .int .u8 15, .int .u8 34, .int .u8 20, .int .u8 31, .int .u8 10, .int .u8 25, .int .u8 14, .int .u8 19, .int .u8 9, .int .u8 13, .int .u8 8, .int .u8 7, .int .u8 6]
  { w with heap := h7 }

end Go.Proofs.YtfldcmdhneegmabGreatDoor

/-
  Events that were handed in, as the row reads them.
-/
namespace Go.Proofs.YtfldcmdhneegmabGreatDoor
open Go.ChangeShapes Go.WideShapes Go.RowKit Go.Lib Go.Deep

theorem list_three {α : Type} {l : List α} (h : l.length = 3) : ∃ a b c, l = [a, b, c] := by
  match l, h with
  | [a, b, c], _ => exact ⟨a, b, c, rfl⟩
theorem Tryz.cellsEv : Tryz.prog.cellsOf 39 = 3 := by kernel_rfl
theorem Tryz.cellsEr : Tryz.prog.cellsOf 21 = 1 := by kernel_rfl
theorem Tryz.cellsEl : Tryz.prog.cellsOf 2 = 1 := by kernel_rfl
/-- Cells that read as an event. -/
theorem ev_cells {H : Type} {enc : TypeId × Value → H} {W : World} {n : Nat} {cs : List Value} {x : DataW H × List MemPlace} (h : DataW.trod enc Tryz.prog W 0 (fun _ => true) true n 39 cs = some x) :
    ∃ y : KV, cs = [.int .i32 y.1, .int .i64 y.2.1, .int .i64 y.2.2] := by
  obtain ⟨xs, k, -, -, hl, hxl, hf⟩ := DataW.trod_struct Tryz.underlying39 h
  rw [Tryz.cellsEv] at hl
  obtain ⟨v0, v1, v2, rfl⟩ := list_three hl
  obtain ⟨y0, y1, y2, rfl⟩ := list_three (l := xs) (by rw [hxl]; rfl)
  have g0 : DataW.trod enc Tryz.prog W 0 (fun _ => true) true k 21 [v0] = some y0 := by
    have := hf 0 _ rfl
    simpa [Tryz.cellsEr] using this
  have g1 : DataW.trod enc Tryz.prog W 0 (fun _ => true) true k 2 [v1] = some y1 := by
    have := hf 1 _ rfl
    simpa [Tryz.cellsEl, Tryz.cellsEr] using this
  have g2 : DataW.trod enc Tryz.prog W 0 (fun _ => true) true k 2 [v2] = some y2 := by
    have := hf 2 _ rfl
    simpa [Tryz.cellsEl, Tryz.cellsEr] using this
  obtain ⟨n0, e0, -, -⟩ := DataW.trod_int Tryz.underlying21 g0
  obtain ⟨n1, e1, -, -⟩ := DataW.trod_int Tryz.underlying2 g1
  obtain ⟨n2, e2, -, -⟩ := DataW.trod_int Tryz.underlying2 g2
  simp only [List.cons.injEq, and_true] at e0 e1 e2
  subst e0 e1 e2
  exact ⟨(n0, n1, n2), rfl⟩
theorem evs_in {H : Type} {enc : TypeId × Value → H} {W : World} {a0 : Option Addr} {len cap : Nat} {d : DataW H} {ps : List MemPlace} (h : DataW.Trod enc Tryz.prog W 0 (fun _ => true) true 22 (.slice a0 len cap) d ps) :
    ∃ l : List KV, l.length = len ∧ EvsIn W (.slice a0 len cap) l ∧ len ≤ cap ∧ len ≤ 9223372036854775807 := by
  obtain ⟨fuel, hf⟩ := h
  rcases open_slice Tryz.underlying22 hf with ⟨hcs, hx⟩ | ⟨a, len', cap', m, n, D, Pl, hcs, -, hl, hm, hmm, hx, hall⟩
  · simp [Value.cells] at hcs
    obtain ⟨rfl, rfl, rfl⟩ := hcs
    exact ⟨[], rfl, ⟨⟨_, _, rfl⟩, fun i hi => by simp at hi⟩, by omega, by omega⟩
  · simp [Value.cells] at hcs
    obtain ⟨rfl, rfl, rfl⟩ := hcs
    simp only [if_true] at hmm
    subst hmm
    rw [Tryz.cellsEv] at hall
    have each : ∀ i, i < len → ∃ y : KV, W.cell? (a.add (i * 3)) = some (.int .i32 y.1) ∧ W.cell? (a.add (i * 3 + 1)) = some (.int .i64 y.2.1) ∧ W.cell? (a.add (i * 3 + 2)) = some (.int .i64 y.2.2) := fun i hi => by
      obtain ⟨cs', k1, k2⟩ := hall i (by omega)
      obtain ⟨y, rfl⟩ := ev_cells k2
      obtain ⟨-, -, hc⟩ := World.cells?_some k1
      have e0 := hc 0 (by omega)
      have e1 := hc 1 (by omega)
      have e2 := hc 2 (by omega)
      rw [add_add] at e0 e1 e2
      exact ⟨y, by simpa using e0, by simpa using e1, by simpa using e2⟩
    obtain ⟨f, hf⟩ := choose_lt each
    refine ⟨(List.range len).map f, by simp, ⟨⟨some a, m, by simp⟩, fun i hi => ?_⟩, ?_, ?_⟩
    · have hi' : i < len := by simpa using hi
      obtain ⟨c0, c1, c2⟩ := hf i hi'
      obtain ⟨b, off, spot⟩ := a
      have hspot : spot = none := by
        have := World.cell?_spot (hf 0 (by omega)).1
        simpa [Addr.add] using this
      subst hspot
      have hb : b < W.heap.size := World.block_lt_of_cell? W _ (by rw [Go.WideShapes.add_plain] at c0; exact c0)
      rw [Go.WideShapes.add_plain] at c0 c1 c2
      refine ⟨b, off, m, by simp, hb, ?_⟩
      simp only [List.getElem_map, List.getElem_range]
      exact ⟨c0, by rw [← Nat.add_assoc] at c1; exact c1, by rw [← Nat.add_assoc] at c2; exact c2⟩
    · omega
    · unfold maxLen at hm
      omega

end Go.Proofs.YtfldcmdhneegmabGreatDoor

/-
  THE LAW Patched: what is handed in, and a start for the witness.
-/
namespace Go.Proofs.YtfldcmdhneegmabGreatDoor
open Go.ChangeShapes Go.WideShapes Go.ChangeAt Go.RowKit Go.Lib Go.Shelf Go.Deep
open Go.ChangeMaps (open_string shut_string)

theorem Tryz.laidOutP : laidOutB Tryz.prog = true := by kernel_rfl
theorem env_patched {W : World} (h : laidMetH Tryz.prog Rows.patchedRow.laid W) : EnvG W ∧ Pow10 W := by
  obtain ⟨h1, h2⟩ := h
  exact env_turn h1 h2
set_option maxRecDepth 100000 in
theorem patched_contract (H : Type) (enc : TypeId × Value → H) (W : World) (base : Nat) (args : Array Value) (ds gs : List (DataW H)) (before : List MemPlace)
    (hval : ∀ (j : Nat) t v, Tryz.f4.params[j]? = some t → args[j]? = some v → Value.okWide Tryz.prog W .any base t v)
    (hW : DataW.Whole enc Tryz.prog Tryz.f4.params.toList Rows.patchedSpec.vars false W args.toList ds gs before) (hL : laidMetH Tryz.prog Rows.patchedRow.laid W) :
    Calls Tryz.prog 4 args W fun e W' => ∃ v, e = .returned v ∧ Rows.patchedSpec.post enc Tryz.prog Tryz.f4 false true false false W args v W' := by
  have hW' := hW
  obtain ⟨p, q, hA0, hV, rfl, hfz, hnd⟩ := hW
  have hA : DataW.TrodAll enc Tryz.prog W 0 (fun _ => true) true Tryz.f4.params.toList args.toList ds p := hA0
  rw [Tryz.params4] at hA hval
  obtain ⟨v0, v1, v2, d0, d1, d2, p0, p1, p2, rfl, rfl, rfl, h0, h1, h2⟩ := trodAll_three hA
  obtain ⟨rfl, rfl⟩ := trodVars_none hV
  obtain ⟨a0, len0, cap0, rfl⟩ := okWide_slice Tryz.underlying22 (hval 0 22 v0 rfl rfl)
  obtain ⟨a1, len1, cap1, rfl⟩ := okWide_slice Tryz.underlying22 (hval 1 22 v1 rfl rfl)
  obtain ⟨a2, len2, cap2, rfl⟩ := okWide_slice Tryz.underlying22 (hval 2 22 v2 rfl rfl)
  have hlt0 : ∀ x ∈ p0, x.block < W.heap.size := fun x hx => by
    have := hW'.lt x (by simp [hx])
    simpa using this
  have hlt1 : ∀ x ∈ p1, x.block < W.heap.size := fun x hx => by
    have := hW'.lt x (by simp [hx])
    simpa using this
  have hlt2 : ∀ x ∈ p2, x.block < W.heap.size := fun x hx => by
    have := hW'.lt x (by simp [hx])
    simpa using this
  obtain ⟨l0, hlen0, hl0, -, -⟩ := evs_in h0
  obtain ⟨l1, hlen1, hl1, -, -⟩ := evs_in h1
  obtain ⟨l2, hlen2, hl2, -, -⟩ := evs_in h2
  clear hA0 hV hval
  subst hlen0 hlen1 hlen2
  refine (patched_any a0 a1 a2 cap0 cap1 cap2 l0 l1 l2 W (env_patched hL).1 (env_patched hL).2 hl0 hl1 hl2).mono ?_
  rintro e W' ⟨rfl, bel⟩
  have e1 : Rows.patchedSpec.fn H ([d0, d1, d2] ++ []) = { results := [.lit (.bool true)], args := [d0, d1, d2] } := rfl
  refine ⟨_, rfl, _, _, _, [], p0 ++ (p1 ++ p2), [], hW', ?_, ?_, ?_, bel.frame _, fun h => by cases h⟩
  · rw [e1]; exact trodAll_mk1 (shut_bool Tryz.underlying4 true)
  · rw [e1]; exact trodAll_mk3 (Below.trod Tryz.laidOutP (by kernel_rfl) (of_decide_eq_true (by kernel_rfl)) h0 bel hlt0) (Below.trod Tryz.laidOutP (by kernel_rfl) (of_decide_eq_true (by kernel_rfl)) h1 bel hlt1) (Below.trod Tryz.laidOutP (by kernel_rfl) (of_decide_eq_true (by kernel_rfl)) h2 bel hlt2)
  · rw [e1]; rfl

set_option maxRecDepth 100000 in
theorem patched_letter (os : Os) : LaidIn Tryz.prog ((layAll (World.settled Tryz.prog os).heap.size (World.holding Tryz.prog os ⟨letterBlocks (World.settled Tryz.prog os).heap.size, #[], []⟩)).forCall (fun _ _ => 0) ⟨#[], #[.slice none 0 0, .slice none 0 0, .slice none 0 0], []⟩).memory [("unicode.Letter", rtabData letterT)] [3, (World.settled Tryz.prog default).heap.size + 2, (World.settled Tryz.prog default).heap.size, (World.settled Tryz.prog default).heap.size + 1] :=
  laidIn_rtab (ρ := Tryz.lays200_ren) { Tryz.lays200 with } Tryz.xL (by kernel_rfl) (by kernel_rfl) letterT ((World.settled Tryz.prog default).heap.size + 2) (World.settled Tryz.prog default).heap.size ((World.settled Tryz.prog default).heap.size + 1) 335 338
    (by kernel_rfl) (by kernel_rfl) (by kernel_rfl) (by kernel_rfl) (by kernel_rfl) (of_decide_eq_true (by kernel_rfl)) (of_decide_eq_true (by kernel_rfl)) (of_decide_eq_true (by kernel_rfl))

/-! ### A WORLD FOR THE WITNESS: the settled one with three blocks more, the variables holding what their initialisers lay -/
set_option maxRecDepth 100000 in
theorem patched_props (os : Os) : LaidIn Tryz.prog ((layAll (World.settled Tryz.prog os).heap.size (World.holding Tryz.prog os ⟨letterBlocks (World.settled Tryz.prog os).heap.size, #[], []⟩)).forCall (fun _ _ => 0) ⟨#[], #[.slice none 0 0, .slice none 0 0, .slice none 0 0], []⟩).memory [("math/bits.deBruijn32tab", Rows.laid_math_bits_deBruijn32tab), ("math/bits.deBruijn64tab", Rows.laid_math_bits_deBruijn64tab), ("internal/strconv.uint64pow10", Rows.laid_internal_strconv_uint64pow10), ("unicode.properties", Rows.laid_unicode_properties)] [4, 5, 1, 2] :=
  LaidIn.of_run [4, 5, 1, 2] 8 (by kernel_rfl) (by kernel_rfl) (by kernel_rfl) (by kernel_rfl)
set_option maxRecDepth 100000 in
theorem patched_met (os : Os) : laidMetH Tryz.prog Rows.patchedRow.laid ((layAll (World.settled Tryz.prog os).heap.size (World.holding Tryz.prog os ⟨letterBlocks (World.settled Tryz.prog os).heap.size, #[], []⟩)).forCall (fun _ _ => 0) ⟨#[], #[.slice none 0 0, .slice none 0 0, .slice none 0 0], []⟩).memory := by
  refine laidMetH_of_parts ?_ (by kernel_rfl)
  have h := ((patched_props os).append (patched_letter os) (by kernel_rfl)).met
  rw [← Pinned.letter_eq] at h
  exact h

set_option maxRecDepth 100000 in
theorem patched_witness (os : Os) {H : Type} (enc : TypeId × Value → H) :
    (OpenSpec.ofChange Rows.patchedSpec).preRow enc Tryz.prog Tryz.f4 Rows.patchedRow.domain false Rows.patchedRow.laid ((layAll (World.settled Tryz.prog os).heap.size (World.holding Tryz.prog os ⟨letterBlocks (World.settled Tryz.prog os).heap.size, #[], []⟩)).forCall (fun _ _ => 0) ⟨#[], #[.slice none 0 0, .slice none 0 0, .slice none 0 0], []⟩).memory #[.slice none 0 0, .slice none 0 0, .slice none 0 0] := by
  have hw : (DataW.whole enc Tryz.prog ((layAll (World.settled Tryz.prog os).heap.size (World.holding Tryz.prog os ⟨letterBlocks (World.settled Tryz.prog os).heap.size, #[], []⟩)).forCall (fun _ _ => 0) ⟨#[], #[.slice none 0 0, .slice none 0 0, .slice none 0 0], []⟩).memory Tryz.f4.params.toList Rows.patchedSpec.vars false #[Value.slice none 0 0, Value.slice none 0 0, Value.slice none 0 0].toList 8).map (fun x => (x.1, x.2.1)) = some ([.nil, .nil, .nil], []) := by kernel_rfl
  obtain ⟨⟨x1, x2, x3⟩, hx, hx1⟩ := Option.map_eq_some_iff.1 hw
  simp only [Prod.mk.injEq] at hx1
  obtain ⟨rfl, rfl⟩ := hx1
  exact OpenSpec.preRow_of_cond 8 hx (by kernel_rfl) (fun k hk => by cases hk) (by kernel_rfl) (patched_met os)

set_option maxRecDepth 100000 in
set_option maxHeartbeats 2000000 in
theorem patched_lifted (os : Os) (started : os.Started) (H : Type) (enc : TypeId × Value → H) (F : Stop.Interp) :
    ReturnsInHanded {} Tryz.checked os 4 .any ((OpenSpec.ofChange Rows.patchedSpec).preRow enc Tryz.prog Tryz.f4 Rows.patchedRow.domain false Rows.patchedRow.laid) (((OpenSpec.ofChange Rows.patchedSpec).at F).post enc Tryz.prog Tryz.f4 false true false false) := by
  refine returnsInHanded_of_row (C := Tryz.checked) (s := OpenSpec.ofChange Rows.patchedSpec) Tryz.own started (by kernel_rfl) Tryz.func4
    (witness_row_atRef (enc := enc) (C := Tryz.checked) false (layAll (World.settled Tryz.prog os).heap.size (World.holding Tryz.prog os ⟨letterBlocks (World.settled Tryz.prog os).heap.size, #[], []⟩)) #[.slice none 0 0, .slice none 0 0, .slice none 0 0] rfl (by kernel_rfl) (by kernel_rfl) (by kernel_rfl) (patched_witness os enc)) ?_
  intro W base args ds gs before hval hW _ _ _ hL _ _
  exact patched_contract H enc W base args ds gs before hval hW hL

end Go.Proofs.YtfldcmdhneegmabGreatDoor

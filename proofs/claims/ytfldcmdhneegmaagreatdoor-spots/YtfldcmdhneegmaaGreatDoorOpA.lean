import Derived.Test.YtfldcmdhneegmaaGreatDoorZ43
import Derived.ProofKit
import Derived.OpenShut
import Derived.Deep.Slices

/-
  A script that was handed in.
-/
namespace Go.Proofs.YtfldcmdhneegmaaGreatDoor
open Go.ChangeShapes Go.WideShapes Go.RowKit Go.Lib Go.Deep

theorem list_four {α : Type} {l : List α} (h : l.length = 4) : ∃ a b c d, l = [a, b, c, d] := by
  match l, h with
  | [a, b, c, d], _ => exact ⟨a, b, c, d, rfl⟩
theorem Tryz.cellsOp : Tryz.prog.cellsOf 65 = 4 := by kernel_rfl
theorem Tryz.cellsOi : Tryz.prog.cellsOf 3 = 1 := by kernel_rfl
theorem Tryz.cellsOb : Tryz.prog.cellsOf 4 = 1 := by kernel_rfl
theorem Tryz.cellsOr : Tryz.prog.cellsOf 21 = 1 := by kernel_rfl
theorem Tryz.cellsOl : Tryz.prog.cellsOf 2 = 1 := by kernel_rfl
/-- Cells that read as a step. -/
theorem op_cells {H : Type} {enc : TypeId × Value → H} {W : World} {n : Nat} {cs : List Value} {x : DataW H × List MemPlace} (h : DataW.trod enc Tryz.prog W 0 (fun _ => true) true n 65 cs = some x) :
    ∃ y : OpV, cs = [.int .i64 y.1, .bool y.2.1, .int .i32 y.2.2.1, .int .i64 y.2.2.2] ∧ y.2.2.2 ≤ 9223372036854775807 := by
  obtain ⟨xs, k, -, -, hl, hxl, hf⟩ := DataW.trod_struct Tryz.underlying65 h
  rw [Tryz.cellsOp] at hl
  obtain ⟨v0, v1, v2, v3, rfl⟩ := list_four hl
  obtain ⟨y0, y1, y2, y3, rfl⟩ := list_four (l := xs) (by rw [hxl]; rfl)
  have g0 : DataW.trod enc Tryz.prog W 0 (fun _ => true) true k 3 [v0] = some y0 := by
    have := hf 0 _ rfl
    simpa [Tryz.cellsOi] using this
  have g1 : DataW.trod enc Tryz.prog W 0 (fun _ => true) true k 4 [v1] = some y1 := by
    have := hf 1 _ rfl
    simpa [Tryz.cellsOb] using this
  have g2 : DataW.trod enc Tryz.prog W 0 (fun _ => true) true k 21 [v2] = some y2 := by
    have := hf 2 _ rfl
    simpa [Tryz.cellsOr] using this
  have g3 : DataW.trod enc Tryz.prog W 0 (fun _ => true) true k 2 [v3] = some y3 := by
    have := hf 3 _ rfl
    simpa [Tryz.cellsOl] using this
  obtain ⟨n0, e0, -, -⟩ := DataW.trod_int Tryz.underlying3 g0
  obtain ⟨n1, e1, -⟩ := DataW.trod_bool Tryz.underlying4 g1
  obtain ⟨n2, e2, -, -⟩ := DataW.trod_int Tryz.underlying21 g2
  obtain ⟨n3, e3, -, w3⟩ := DataW.trod_int Tryz.underlying2 g3
  simp only [List.cons.injEq, and_true] at e0 e1 e2 e3
  subst e0 e1 e2 e3
  refine ⟨(n0, n1, n2, n3), rfl, ?_⟩
  have e : IntKind.i64.max = 9223372036854775807 := by rfl
  simp [Lit.wf] at w3
  show n3 ≤ _
  rw [← e]
  exact w3.2

theorem ops_in {H : Type} {enc : TypeId × Value → H} {W : World} {a0 : Option Addr} {len cap : Nat} {d : DataW H} {ps : List MemPlace} (h : DataW.Trod enc Tryz.prog W 0 (fun _ => true) true 22 (.slice a0 len cap) d ps) :
    ∃ l : List OpV, l.length = len ∧ OpsIn W (.slice a0 len cap) l ∧ ∀ x ∈ l, x.2.2.2 ≤ 9223372036854775807 := by
  obtain ⟨fuel, hf⟩ := h
  rcases open_slice Tryz.underlying22 hf with ⟨hcs, hx⟩ | ⟨a, len', cap', m, n, D, Pl, hcs, -, hl, hm, hmm, hx, hall⟩
  · simp [Value.cells] at hcs
    obtain ⟨rfl, rfl, rfl⟩ := hcs
    exact ⟨[], rfl, ⟨⟨_, _, rfl⟩, fun i hi => by simp at hi⟩, by simp⟩
  · simp [Value.cells] at hcs
    obtain ⟨rfl, rfl, rfl⟩ := hcs
    simp only [if_true] at hmm
    subst hmm
    rw [Tryz.cellsOp] at hall
    have each : ∀ i, i < len → ∃ y : OpV, (W.cell? (a.add (i * 4)) = some (.int .i64 y.1) ∧ W.cell? (a.add (i * 4 + 1)) = some (.bool y.2.1) ∧ W.cell? (a.add (i * 4 + 2)) = some (.int .i32 y.2.2.1) ∧ W.cell? (a.add (i * 4 + 3)) = some (.int .i64 y.2.2.2)) ∧ y.2.2.2 ≤ 9223372036854775807 := fun i hi => by
      obtain ⟨cs', k1, k2⟩ := hall i (by omega)
      obtain ⟨y, rfl, hy⟩ := op_cells k2
      obtain ⟨-, -, hc⟩ := World.cells?_some k1
      have e0 := hc 0 (by omega)
      have e1 := hc 1 (by omega)
      have e2 := hc 2 (by omega)
      have e3 := hc 3 (by omega)
      rw [add_add] at e0 e1 e2 e3
      exact ⟨y, ⟨by simpa using e0, by simpa using e1, by simpa using e2, by simpa using e3⟩, hy⟩
    obtain ⟨f, hf⟩ := choose_lt each
    refine ⟨(List.range len).map f, by simp, ⟨⟨some a, m, by simp⟩, fun i hi => ?_⟩, fun x hx => ?_⟩
    · have hi' : i < len := by simpa using hi
      obtain ⟨⟨c0, c1, c2, c3⟩, -⟩ := hf i hi'
      obtain ⟨b, off, spot⟩ := a
      have hspot : spot = none := by
        have := World.cell?_spot (hf 0 (by omega)).1.1
        simpa [Addr.add] using this
      subst hspot
      have hb : b < W.heap.size := World.block_lt_of_cell? W _ (by rw [Go.WideShapes.add_plain] at c0; exact c0)
      rw [Go.WideShapes.add_plain] at c0 c1 c2 c3
      refine ⟨b, off, m, by simp, hb, ?_⟩
      simp only [List.getElem_map, List.getElem_range]
      exact ⟨c0, by rw [← Nat.add_assoc] at c1; exact c1, by rw [← Nat.add_assoc] at c2; exact c2, by rw [← Nat.add_assoc] at c3; exact c3⟩
    · obtain ⟨i, hi, rfl⟩ := List.mem_map.1 hx
      exact (hf i (by simpa using hi)).2

end Go.Proofs.YtfldcmdhneegmaaGreatDoor

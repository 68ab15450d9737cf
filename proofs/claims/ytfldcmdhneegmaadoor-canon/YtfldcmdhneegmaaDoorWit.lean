/-
  A WORLD FOR THE WITNESSES: the settled one with three blocks more, the variables holding what their initialisers lay.
-/
import Derived.Test.YtfldcmdhneegmaaDoorLaid
namespace Go.Proofs.YtfldcmdhneegmaaDoor
open Go.RowKit Go.Lib Go.Shelf

/-- A variable's block, laid anew. -/
def putVar (h : Array Obj) (g : Nat) (cs : Array Value) : Array Obj := h.modify g fun
  | .cells _ t frozen => .cells cs t frozen
  | o => o
/-- The three blocks of unicode.Letter: its R16, its R32, its RangeTable. -/
def letterBlocks (N : Nat) : Array Obj := #[
  .cells (rgCells .u16 letterT.r16) 127, .cells (rgCells .u32 letterT.r32) 130,
  .cells #[.slice (some ⟨N, 0, none⟩) letterT.r16.size letterT.r16.size, .slice (some ⟨N + 1, 0, none⟩) letterT.r32.size letterT.r32.size, .int .i64 letterT.off] 124]
/-- The variables hold what their initialisers lay. -/
def layAll (N : Nat) (w : World) : World :=
  let h0 := putVar w.heap 0 (propertiesTab.map fun z => Value.int .u8 z).toArray
  let h1 := putVar h0 1 #[.pointer (some ⟨N + 2, 0, none⟩)]
  let h2 := putVar h1 4 #[.iface 181 (.agg #[.pointer (some ⟨8, 39, none⟩)])]
  let h3 := putVar h2 2 (firstTab.map fun z => Value.int .u8 z).toArray
  let h4 := putVar h3 3 ((List.range 16).flatMap fun i => [Value.int .u8 (accLo i), Value.int .u8 (accHi i)]).toArray
  let h5 := putVar h4 5 (pow10Tab.map fun z => Value.int .u64 z).toArray
  let h6 := putVar h5 6 #[.int .u8 0, .int .u8 1, .int .u8 28, .int .u8 2, .int .u8 29, .int .u8 14, .int .u8 24, .int .u8 3, .int .u8 30, .int .u8 22, .int .u8 20, .int .u8 15, .int .u8 25, .int .u8 17, .int .u8 4, .int .u8 8, .int .u8 31, .int .u8 27, .int .u8 13, .int .u8 23, .int .u8 21, .int .u8 19, .int .u8 16, .int .u8 7, .int .u8 26, .int .u8 12, .int .u8 18, .int .u8 6, .int .u8 11, .int .u8 5, .int .u8 10, .int .u8 9]
  let h7 := putVar h6 7 #[.int .u8 0, .int .u8 1, .int .u8 56, .int .u8 2, .int .u8 57, .int .u8 49, .int .u8 28, .int .u8 3, .int .u8 61, .int .u8 58, .int .u8 42, .int .u8 50, .int .u8 38, .int .u8 29, .int .u8 17, .int .u8 4, .int .u8 62, .int .u8 47, .int .u8 59, .int .u8 36, .int .u8 45, .int .u8 43, .int .u8 51, .int .u8 22, .int .u8 53, .int .u8 39, .int .u8 33, .int .u8 30, .int .u8 24, .int .u8 18, .int .u8 12, .int .u8 5, .int .u8 63, .int .u8 55, .int .u8 48, .int .u8 27, .int .u8 60, .int .u8 41, .int .u8 37, .int .u8 16, .int .u8 46, .int .u8 35, .int .u8 44, .int .u8 21, .int .u8 52, .int .u8 32, .int .u8 23, .int .u8 11, .int .u8 54, .int .u8 26, .int .u8 40, .int .u8 15, .int .u8 34, .int .u8 20, .int .u8 31, .int .u8 10, .int .u8 25, .int .u8 14, .int .u8 19, .int .u8 9, .int .u8 13, .int .u8 8, .int .u8 7, .int .u8 6]
  { w with heap := h7 }

set_option maxRecDepth 100000 in
theorem piece_letter (os : Os) : LaidIn Tryd.prog ((layAll (World.settled Tryd.prog os).heap.size (World.holding Tryd.prog os ⟨letterBlocks (World.settled Tryd.prog os).heap.size, #[], []⟩)).forCall (fun _ _ => 0) ⟨#[], #[.string ⟨#[]⟩], []⟩).memory [("unicode.Letter", rtabData letterT)] [1, (World.settled Tryd.prog default).heap.size + 2, (World.settled Tryd.prog default).heap.size, (World.settled Tryd.prog default).heap.size + 1] :=
  laidIn_rtab (ρ := Tryd.lays200_ren) { Tryd.lays200 with } Tryd.xL (by kernel_rfl) (by kernel_rfl) letterT ((World.settled Tryd.prog default).heap.size + 2) (World.settled Tryd.prog default).heap.size ((World.settled Tryd.prog default).heap.size + 1) 127 130
    (by kernel_rfl) (by kernel_rfl) (by kernel_rfl) (by kernel_rfl) (by kernel_rfl) (of_decide_eq_true (by kernel_rfl)) (of_decide_eq_true (by kernel_rfl)) (of_decide_eq_true (by kernel_rfl))

end Go.Proofs.YtfldcmdhneegmaaDoor

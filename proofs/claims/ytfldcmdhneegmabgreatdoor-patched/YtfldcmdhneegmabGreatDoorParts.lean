import Derived.Test.YtfldcmdhneegmabGreatDoorProg
import Derived.WalkKit
import Derived.Lib.OthersKept
import Derived.Test.YtfldcmdhneegmabGreatDoorPlain
import Derived.Test.YtfldcmdhneegmabGreatDoorBase

/-
  PARTS: the reader in memory.
-/
namespace Go.Proofs.YtfldcmdhneegmabGreatDoor
open Go.RowKit Go.Lib

/-- The steps as cells. -/
def stepCells (l : List (Int × Bool)) : List Value := l.flatMap fun x => [.int .i32 x.1, .bool x.2]
theorem stepCells_length (l : List (Int × Bool)) : (stepCells l).length = l.length * 2 := by
  induction l with
  | nil => rfl
  | cons x r ih => simp [stepCells] at ih ⊢; omega

/-- The reader in block b; its steps are a row of the call's own, from 'base' on. -/
structure Rd (b base : Nat) (s : Pl.St) (v : Value) (w : World) : Prop where
  blk : w.heap[b]? = some (.cells #[.int .i64 s.pl, v, .int .i64 s.win] 197 (0, 0))
  own : w.ownsRow base 155 2 v s.l.length (stepCells s.l)
  lt : b < base
  le : base ≤ w.heap.size

theorem Rd.c0 {b base : Nat} {s : Pl.St} {v : Value} {w : World} (h : Rd b base s v w) : w.cell? ⟨b, 0, none⟩ = some (.int .i64 s.pl) := by simp [World.cell?, h.blk]
theorem Rd.c1 {b base : Nat} {s : Pl.St} {v : Value} {w : World} (h : Rd b base s v w) : w.cell? ⟨b, 1, none⟩ = some v := by simp [World.cell?, h.blk]
theorem Rd.c2 {b base : Nat} {s : Pl.St} {v : Value} {w : World} (h : Rd b base s v w) : w.cell? ⟨b, 2, none⟩ = some (.int .i64 s.win) := by simp [World.cell?, h.blk]
theorem Rd.fz {b base : Nat} {s : Pl.St} {v : Value} {w : World} (h : Rd b base s v w) (o : Nat) : w.frozen? ⟨b, o, none⟩ = false := by simp [World.frozen?, h.blk]

/-- What a call leaves of all but the reader and its steps. -/
structure Kept (b : Nat) (w w' : World) : Prop where
  below : Below b w w'
  others : OthersKept 155 (some b) w w'

theorem Kept.refl (b : Nat) (w : World) : Kept b w w := ⟨Below.refl _ _, OthersKept.refl _ _ _⟩
theorem Kept.trans {b : Nat} {a c d : World} (h : Kept b a c) (k : Kept b c d) : Kept b a d := ⟨h.below.trans k.below, h.others.trans k.others⟩
theorem Kept.setCell {b : Nat} {a w : World} (h : Kept b a w) (o : Nat) (u : Value) : Kept b a (w.setCell ⟨b, o, none⟩ u) :=
  ⟨h.below.setCell (Nat.le_refl _) u, h.others.setCell _ rfl u⟩

/-- What a call that takes a rune leaves. -/
def After (b base : Nat) (r : Option Pl.St) (w : World) (e : Ending) (w' : World) : Prop :=
  Kept b w w' ∧ match r with
    | none => e = .returned (.bool false)
    | some s => e = .returned (.bool true) ∧ ∃ v, Rd b base s v w'

theorem blk_set {w : World} {b : Nat} {x y z : Value} {t : TypeId} (h : w.heap[b]? = some (.cells #[x, y, z] t (0, 0))) (u : Value) :
    (w.setCell ⟨b, 0, none⟩ u).heap[b]? = some (.cells #[u, y, z] t (0, 0)) ∧ (w.setCell ⟨b, 1, none⟩ u).heap[b]? = some (.cells #[x, u, z] t (0, 0)) ∧ (w.setCell ⟨b, 2, none⟩ u).heap[b]? = some (.cells #[x, y, u] t (0, 0)) := by
  have hlt := lt_of_block h
  have h' : w.heap[b] = .cells #[x, y, z] t (0, 0) := by simpa [Array.getElem?_eq_getElem hlt] using h
  refine ⟨?_, ?_, ?_⟩
  all_goals
    show (w.heap.modify b _)[b]? = _
    rw [Array.getElem?_eq_getElem (by simpa using hlt), Array.getElem_modify_self, h']
    rfl

theorem Rd.setPl {b base : Nat} {s : Pl.St} {v : Value} {w : World} (h : Rd b base s v w) (p : Int) : Rd b base { s with pl := p } v (w.setCell ⟨b, 0, none⟩ (.int .i64 p)) :=
  ⟨(blk_set h.blk _).1, ownsRow_setCell_below h.own h.lt _, h.lt, by simpa [World.setCell] using h.le⟩
theorem Rd.setWin {b base : Nat} {s : Pl.St} {v : Value} {w : World} (h : Rd b base s v w) (x : Int) : Rd b base { s with win := x } v (w.setCell ⟨b, 2, none⟩ (.int .i64 x)) :=
  ⟨(blk_set h.blk _).2.2, ownsRow_setCell_below h.own h.lt _, h.lt, by simpa [World.setCell] using h.le⟩

end Go.Proofs.YtfldcmdhneegmabGreatDoor

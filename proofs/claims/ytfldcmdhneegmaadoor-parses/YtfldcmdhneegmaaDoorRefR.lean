/-
  package spotterref's WALKS, 4: Parse: the parts.
-/
import Derived.Test.YtfldcmdhneegmaaDoorRefT
namespace Go.Proofs.YtfldcmdhneegmaaDoor
open Go.RowKit Go.Lib

theorem Tryd.infoRefStep : (Tryd.prog.info? 53).map (fun i => (i.zero, i.size, i.bytes)) = some (some (.agg #[.int .i32 0, .bool false]), 2, 8) := by kernel_rfl

/-- The pattern that is built: its block is the first that the call makes; its steps are a row of the call's own. -/
structure PRel (w wr : World) (acc : List (Int × Bool)) (v : Value) (win : Int) : Prop where
  blk : wr.heap[w.heap.size]? = some (.cells #[v, .int .i64 win] 46 (0, 0))
  own : wr.ownsRow (w.heap.size + 1) 53 2 v acc.length (stepCells acc)
  bel : Below w.heap.size w wr

theorem PRel.lt {w wr : World} {acc : List (Int × Bool)} {v : Value} {win : Int} (h : PRel w wr acc v win) : w.heap.size < wr.heap.size := lt_of_block h.blk
theorem prel_start (w : World) : PRel w (w.alloc (.cells #[.slice none 0 0, .int .i64 0] 46)) [] (.slice none 0 0) 0 :=
  ⟨heap_alloc_new w _, World.ownsRow_nil _ _ _ _, (Below.refl _ w).alloc (Nat.le_refl _) _⟩
theorem PRel.below {w wr w2 : World} {acc : List (Int × Bool)} {v : Value} {win : Int} (h : PRel w wr acc v win) (hb : Below wr.heap.size wr w2) : PRel w w2 acc v win :=
  ⟨by rw [hb.block _ h.lt]; exact h.blk, own_below h.own hb, h.bel.trans (hb.mono (Nat.le_of_lt h.lt))⟩

theorem blk2_set {w : World} {b : Nat} {x y : Value} {t : TypeId} (h : w.heap[b]? = some (.cells #[x, y] t (0, 0))) (u : Value) :
    (w.setCell ⟨b, 0, none⟩ u).heap[b]? = some (.cells #[u, y] t (0, 0)) ∧ (w.setCell ⟨b, 1, none⟩ u).heap[b]? = some (.cells #[x, u] t (0, 0)) := by
  have hlt := lt_of_block h
  have h' : w.heap[b] = .cells #[x, y] t (0, 0) := by simpa [Array.getElem?_eq_getElem hlt] using h
  refine ⟨?_, ?_⟩
  all_goals
    show (w.heap.modify b _)[b]? = _
    rw [Array.getElem?_eq_getElem (by simpa using hlt), Array.getElem_modify_self, h']
    rfl

theorem PRel.grown {w w2 w3 : World} {acc : List (Int × Bool)} {v v' : Value} {win : Int} {c : Int} {p : Bool} {o : Obj} (h : PRel w w2 acc v win)
    (hown : w3.ownsRow (w.heap.size + 1) 53 2 v' (acc.length + 1) (stepCells acc ++ [.int .i32 c, .bool p])) (hg : (w2.alloc o).grownBy w3 v.ownBlock) :
    PRel w (w3.setCell ⟨w.heap.size, 0, none⟩ v') (acc ++ [(c, p)]) v' win ∧ w3.heap[w.heap.size]? = some (.cells #[v, .int .i64 win] 46 (0, 0)) := by
  have hlt := h.lt
  have hne : some w.heap.size ≠ v.ownBlock := fun e => by have := (own_block h.own _ e.symm).1; omega
  have hb1 : w3.heap[w.heap.size]? = some (.cells #[v, .int .i64 win] 46 (0, 0)) := by
    rw [hg.block _ (by simp; omega) hne, Below.heap_alloc _ _ _ hlt]; exact h.blk
  refine ⟨⟨(blk2_set hb1 v').1, ?_, ?_⟩, hb1⟩
  · have := ownsRow_setCell_below hown (a := ⟨w.heap.size, 0, none⟩) (by show w.heap.size < w.heap.size + 1; omega) v'
    simpa [stepCells] using this
  · exact ((h.bel.alloc (Nat.le_of_lt hlt) o).grown hg (by simp; omega) (fun k hk => by have := (own_block h.own k hk).1; omega)).setCell (Nat.le_refl _) _
theorem PRel.setWin {w wr : World} {acc : List (Int × Bool)} {v : Value} {win : Int} (h : PRel w wr acc v win) (x : Int) : PRel w (wr.setCell ⟨w.heap.size, 1, none⟩ (.int .i64 x)) acc v x :=
  ⟨(blk2_set h.blk _).2, ownsRow_setCell_below h.own (by show w.heap.size < w.heap.size + 1; omega) _, h.bel.setCell (Nat.le_refl _) _⟩

/-- How wide the first rune is at most. -/
theorem dec_le (b : UInt8) (r : List UInt8) : (Utf8.decode ⟨(b :: r).toArray⟩ 0).2 ≤ (b :: r).length := by
  rw [decode_at]
  have hs : (⟨(b :: r).toArray⟩ : ByteArray).size - 0 = (b :: r).length := by simp [ByteArray.size]
  rw [hs]
  have h1 : 1 ≤ (b :: r).length := by simp
  generalize (b :: r).length = n at h1
  unfold decodeN
  repeat' split
  all_goals (simp only []; omega)

def strLen : Value → Nat
  | .string s => s.size
  | _ => 0

/-- utf8's tables. -/
def Decodes (w : World) : Prop := Utf8Tabs 2 3 w
theorem Decodes.below {w w' : World} (h : Decodes w) (hb : Below w.heap.size w w') : Decodes w' :=
  ⟨fun c hc => cell_below hb (h.1 c hc), fun i hi => ⟨cell_below hb (h.2 i hi).1, cell_below hb (h.2 i hi).2⟩⟩

theorem decode_any (b : UInt8) (r : List UInt8) (W : World) (h : Decodes W) :
    Calls Tryd.prog 18 #[.string ⟨(b :: r).toArray⟩] W fun e w' => e = .returned (.tuple #[.int .i32 (Utf8.decode ⟨(b :: r).toArray⟩ 0).1, .int .i64 (Utf8.decode ⟨(b :: r).toArray⟩ 0).2]) ∧ Below W.heap.size W w' := by
  have := Tryd.utf8_DecodeRuneInString ⟨(b :: r).toArray⟩ W h
  rw [show decodeGo ⟨(b :: r).toArray⟩ = Utf8.decode ⟨(b :: r).toArray⟩ 0 by unfold decodeGo; rw [if_neg (by simp [ByteArray.size])]] at this
  exact this
theorem decode_nil (W : World) (h : Decodes W) :
    Calls Tryd.prog 18 #[.string ⟨([] : List UInt8).toArray⟩] W fun e w' => e = .returned (.tuple #[.int .i32 65533, .int .i64 0]) ∧ Below W.heap.size W w' := by
  have := Tryd.utf8_DecodeRuneInString ⟨([] : List UInt8).toArray⟩ W h
  exact this

/-- What Parse of a text gives. -/
def RefEnd (q : Option (List (Int × Bool) × Int)) (w : World) (e : Ending) (w' : World) : Prop :=
  match q with
  | none => e = .returned (.tuple #[.pointer none, .int .i64 2]) ∧ Below w.heap.size w w'
  | some (l, win) => ∃ v, e = .returned (.tuple #[.pointer (some ⟨w.heap.size, 0, none⟩), .int .i64 0]) ∧ PRel w w' l v win

end Go.Proofs.YtfldcmdhneegmaaDoor

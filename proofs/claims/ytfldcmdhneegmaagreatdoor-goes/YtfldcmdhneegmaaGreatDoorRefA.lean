import Derived.Test.YtfldcmdhneegmaaGreatDoorRefF
import Derived.Test.YtfldcmdhneegmaaGreatDoorZ14
import Derived.Test.YtfldcmdhneegmaaGreatDoorZ00
import Derived.Deep.RegionHeld3
import Derived.Deep.DeepCutAuto

/-
  package spotterref's WALKS of the engine, 8: what Advance holds in memory.
-/
namespace Go.Proofs.YtfldcmdhneegmaaGreatDoor
open Go.RowKit Go.Lib

/-- Old blocks, and new ones that are none of two rows'. -/
def GG (F : Nat → Prop) (N : Nat) (v1 v2 : Value) (b : Nat) : Prop := F b ∨ (N ≤ b ∧ v1.ownBlock ≠ some b ∧ v2.ownBlock ≠ some b)
/-- What the loop of the document's Advance holds. -/
structure RaMem (F : Nat → Prop) (w wr : World) (eb pb : Nat) (P : En.Pat) (W Next : Int) (vs vw vd vo vl vrest vout : Value) (Q D l R : List En.Ev) (old : List RV) (L : List MV) : Prop where
  eng : wr.heap[eb]? = some (.cells #[.pointer (some ⟨pb, 0, none⟩), .int .i64 W, .int .i64 Next, vw, vd, vo] 86 (0, 0))
  done : EvsAt (GG F w.heap.size vrest vout) wr vd D
  lst : EvsAt (GG F w.heap.size vrest vout) wr vl l
  rest : wr.ownsRow w.heap.size 89 3 vrest R.length (evCells R)
  out : wr.ownsRow w.heap.size 109 2 vout L.length (mCells L)
  ints : ∀ y ∈ L, IntsAt (GG F w.heap.size vrest vout) wr y.2 y.1.1
  os : wr.os = w.os
  tape : wr.tape = w.tape
  output : wr.output = w.output
  size : w.heap.size ≤ wr.heap.size
  block : ∀ b, b < w.heap.size → b ≠ eb → wr.heap[b]? = w.heap[b]?
/-- What the old blocks are. -/
structure RaCtx (F : Nat → Prop) (w : World) (eb : Nat) : Prop where
  leb : eb < w.heap.size
  ne : ¬ F eb
  lt : ∀ b, F b → b < w.heap.size
section
variable {F : Nat → Prop} {w wr w' : World} {eb pb : Nat} {P : En.Pat} {W Next : Int} {vs vw vd vo vl vrest vout vd0 : Value} {Q D l R D0 : List En.Ev} {old : List RV} {L : List MV}
theorem RaMem.below (h : RaMem F w wr eb pb P W Next vs vw vd vo vl vrest vout Q D l R old L) (hb : Below wr.heap.size wr w') : RaMem F w w' eb pb P W Next vs vw vd vo vl vrest vout Q D l R old L :=
  ⟨(hb.block _ (lt_of_block h.eng)).trans h.eng, RowAt.below h.done hb, RowAt.below h.lst hb, own_below h.rest hb, own_below h.out hb, fun y hy => (h.ints y hy).below hb, hb.os.trans h.os, hb.tape.trans h.tape, hb.output.trans h.output, Nat.le_trans h.size hb.size, fun b h1 h2 => (hb.block b (Nat.lt_of_lt_of_le h1 h.size)).trans (h.block b h1 h2)⟩
/-- New blocks are among those that may be read. -/
theorem RaMem.newG (h : RaMem F w wr eb pb P W Next vs vw vd vo vl vrest vout Q D l R old L) : ∀ b, wr.heap.size ≤ b → GG F w.heap.size vrest vout b := fun b hb => Or.inr ⟨Nat.le_trans h.size hb, fun e => by
    obtain ⟨-, c, fz, h1⟩ := own_block h.rest b e
    have := lt_of_block h1
    omega, fun e => by
    obtain ⟨-, c, fz, h1⟩ := own_block h.out b e
    have := lt_of_block h1
    omega⟩
theorem RaMem.reads {F0 : Nat → Prop} (hE : REng F0 w eb pb P W Next vs vw vd0 vo Q D0 old) (hsub : ∀ b, F0 b → F b) (h : RaMem F w wr eb pb P W Next vs vw vd vo vl vrest vout Q D l R old L) : Reads (GG F w.heap.size vrest vout) wr eb pb P vs vd vo D old := by
  have hF : ∀ b, b < w.heap.size → F0 b → wr.heap[b]? = w.heap[b]? := fun b hb hFb => h.block b hb (fun e => hE.ne (by rw [← e]; exact hFb))
  have hp := (hF pb (hE.lt _ hE.fp) hE.fp).trans hE.pat
  obtain ⟨c0, c1, c2, c3, c4, c5, -⟩ : wr.cell? ⟨eb, 0, none⟩ = some (.pointer (some ⟨pb, 0, none⟩)) ∧ wr.cell? ⟨eb, 1, none⟩ = some (.int .i64 W) ∧ wr.cell? ⟨eb, 2, none⟩ = some (.int .i64 Next) ∧ wr.cell? ⟨eb, 3, none⟩ = some vw ∧ wr.cell? ⟨eb, 4, none⟩ = some vd ∧ wr.cell? ⟨eb, 5, none⟩ = some vo ∧ True := by simp [World.cell?, h.eng]
  exact ⟨c0, c4, c5, by simp [World.cell?, hp], by simp [World.cell?, hp], RowAt.mono (hE.steps.frame h.size hF) (fun b _ hb => Or.inl (hsub b hb)), h.done, RunsAt.mono (hE.old.frame h.size hF) (fun b _ hb => Or.inl (hsub b hb))⟩
/-- A row that is not among those that are written stays, and is not among those that are written later. -/
theorem gg_row {w0 : World} {v1 v2 v1' v2' v : Value} {k n : Nat} {xs : List Value} {x : Option Nat} (h : RowAt (GG F w0.heap.size v1 v2) wr v k n xs) (hF : ∀ b, F b → b < w0.heap.size) (hx : x = v1.ownBlock ∨ x = v2.ownBlock) (hg : wr.grownBy w' x) (h12 : ∀ b, x = some b → w0.heap.size ≤ b) (h1 : ∀ b, v1'.ownBlock = some b → v1.ownBlock = some b ∨ wr.heap.size ≤ b) (h2 : ∀ b, v2'.ownBlock = some b → v2.ownBlock = some b ∨ wr.heap.size ≤ b) : RowAt (GG F w0.heap.size v1' v2') w' v k n xs := by
  refine RowAt.mono (RowAt.frame (RowAt.mono h (G := fun b => GG F w0.heap.size v1 v2 b ∧ b < wr.heap.size) (fun b hb hG => ⟨hG, hb⟩)) hg.size (fun b hb hG => hg.block b hb (fun e => ?_))) (fun b _ hG => ?_)
  · rcases hG.1 with hG | ⟨h3, h4, h5⟩
    · have := hF b hG
      have := h12 b e.symm
      omega
    · rcases hx with hx | hx
      · exact h4 (by rw [← hx, ← e])
      · exact h5 (by rw [← hx, ← e])
  · obtain ⟨hG, hlt⟩ := hG
    rcases hG with hG | ⟨h3, h4, h5⟩
    · exact Or.inl hG
    · refine Or.inr ⟨h3, fun e => ?_, fun e => ?_⟩
      · rcases h1 b e with h | h
        · exact h4 h
        · omega
      · rcases h2 b e with h | h
        · exact h5 h
        · omega
theorem RaMem.ebne (hE : RaCtx F w eb) (h : RaMem F w wr eb pb P W Next vs vw vd vo vl vrest vout Q D l R old L) : vrest.ownBlock ≠ some eb ∧ vout.ownBlock ≠ some eb := by
  have := hE.leb
  exact ⟨fun e => by have := (own_block h.rest eb e).1; omega, fun e => by have := (own_block h.out eb e).1; omega⟩
/-- One event more that stays. -/
theorem RaMem.restMore {g cap : Nat} {ev : En.Ev} (hE : RaCtx F w eb) (h : RaMem F w wr eb pb P W Next vs vw vd vo vl vrest vout Q D l R old L)
    (own5 : w'.ownsRow w.heap.size 89 3 (.slice (some ⟨g, 0, none⟩) (R.length + 1) cap) (R.length + 1) (evCells R ++ [.int .i64 ev.off, .int .i32 ev.kind, .int .i64 ev.time])) (gr : wr.grownBy w' vrest.ownBlock) (hg : vrest.ownBlock = some g ∨ g = wr.heap.size) :
    RaMem F w w' eb pb P W Next vs vw vd vo vl (.slice (some ⟨g, 0, none⟩) (R.length + 1) cap) vout Q D l (R ++ [ev]) old L := by
  have hb := h.ebne hE
  have hN : ∀ b, vrest.ownBlock = some b → w.heap.size ≤ b := fun b e => (own_block h.rest b e).1
  have h1 : ∀ b, (Value.slice (some ⟨g, 0, none⟩) (R.length + 1) cap).ownBlock = some b → vrest.ownBlock = some b ∨ wr.heap.size ≤ b := fun b e => by
    have e' : g = b := by simpa [Value.ownBlock] using e
    subst e'
    exact hg.imp id (fun h => by omega)
  have row : ∀ {v : Value} {k n : Nat} {xs : List Value}, RowAt (GG F w.heap.size vrest vout) wr v k n xs → RowAt (GG F w.heap.size (.slice (some ⟨g, 0, none⟩) (R.length + 1) cap) vout) w' v k n xs := fun hr =>
    gg_row hr hE.lt (Or.inl rfl) gr hN h1 (fun b e => Or.inl e)
  refine ⟨(gr.block eb (lt_of_block h.eng) (fun e => hb.1 e.symm)).trans h.eng, row h.done, row h.lst, by simpa [evCells] using own5, h.out.kept gr (own_other h.out h.rest (by decide)), fun y hy => row (h.ints y hy), gr.os.trans h.os, gr.tape.trans h.tape, gr.output.trans h.output, Nat.le_trans h.size gr.size, fun b hb1 hb2 => (gr.block b (Nat.lt_of_lt_of_le hb1 h.size) (fun e => ?_)).trans (h.block b hb1 hb2)⟩
  have := hN b e.symm
  omega
/-- One match more. -/
theorem RaMem.outMore {g cap : Nat} {y : MV} (hE : RaCtx F w eb) (h : RaMem F w wr eb pb P W Next vs vw vd vo vl vrest vout Q D l R old L) (hy : IntsAt (GG F w.heap.size vrest vout) wr y.2 y.1.1)
    (own5 : w'.ownsRow w.heap.size 109 2 (.slice (some ⟨g, 0, none⟩) (L.length + 1) cap) (L.length + 1) (mCells L ++ [y.2, .int .i64 y.1.2])) (gr : wr.grownBy w' vout.ownBlock) (hg : vout.ownBlock = some g ∨ g = wr.heap.size) :
    RaMem F w w' eb pb P W Next vs vw vd vo vl vrest (.slice (some ⟨g, 0, none⟩) (L.length + 1) cap) Q D l R old (L ++ [y]) := by
  have hb := h.ebne hE
  have hN : ∀ b, vout.ownBlock = some b → w.heap.size ≤ b := fun b e => (own_block h.out b e).1
  have h1 : ∀ b, (Value.slice (some ⟨g, 0, none⟩) (L.length + 1) cap).ownBlock = some b → vout.ownBlock = some b ∨ wr.heap.size ≤ b := fun b e => by
    have e' : g = b := by simpa [Value.ownBlock] using e
    subst e'
    exact hg.imp id (fun h => by omega)
  have row : ∀ {v : Value} {k n : Nat} {xs : List Value}, RowAt (GG F w.heap.size vrest vout) wr v k n xs → RowAt (GG F w.heap.size vrest (.slice (some ⟨g, 0, none⟩) (L.length + 1) cap)) w' v k n xs := fun hr =>
    gg_row hr hE.lt (Or.inr rfl) gr hN (fun b e => Or.inl e) h1
  refine ⟨(gr.block eb (lt_of_block h.eng) (fun e => hb.2 e.symm)).trans h.eng, row h.done, row h.lst, h.rest.kept gr (own_other h.rest h.out (by decide)), by simpa [mCells] using own5, fun z hz => ?_, gr.os.trans h.os, gr.tape.trans h.tape, gr.output.trans h.output, Nat.le_trans h.size gr.size, fun b hb1 hb2 => (gr.block b (Nat.lt_of_lt_of_le hb1 h.size) (fun e => ?_)).trans (h.block b hb1 hb2)⟩
  · rcases List.mem_append.1 hz with hz | hz
    · exact row (h.ints z hz)
    · obtain rfl := List.mem_singleton.1 hz
      exact row hy
  · have := hN b e.symm
    omega
theorem blkR_set {w : World} {b : Nat} {x0 x1 x2 x3 x4 x5 : Value} {t : TypeId} (h : w.heap[b]? = some (.cells #[x0, x1, x2, x3, x4, x5] t (0, 0))) (u : Value) (i : Nat) :
    (w.setCell ⟨b, i, none⟩ u).heap[b]? = some (.cells (#[x0, x1, x2, x3, x4, x5].setIfInBounds i u) t (0, 0)) := by
  show (w.heap.modify b _)[b]? = _
  rw [Array.getElem?_modify, if_pos rfl, h]
  rfl
/-- Another row of what is done. -/
theorem RaMem.doneSet {D' : List En.Ev} {vd' : Value} (hE : RaCtx F w eb) (h : RaMem F w wr eb pb P W Next vs vw vd vo vl vrest vout Q D l R old L) (hd : EvsAt (GG F w.heap.size vrest vout) wr vd' D') :
    RaMem F w (wr.setCell ⟨eb, 4, none⟩ vd') eb pb P W Next vs vw vd' vo vl vrest vout Q D' l R old L := by
  have leb := hE.leb
  have hb := h.ebne hE
  have gr := grown_set wr eb 4 vd'
  have row : ∀ {v : Value} {k n : Nat} {xs : List Value}, RowAt (GG F w.heap.size vrest vout) wr v k n xs → RowAt (GG F w.heap.size vrest vout) (wr.setCell ⟨eb, 4, none⟩ vd') v k n xs := fun hr =>
    RowAt.frame hr gr.size (fun b hb hG => gr.block b hb (fun e => by
      cases e
      rcases hG with hG | ⟨hG, -⟩
      · exact hE.ne hG
      · omega))
  refine ⟨by simpa using blkR_set h.eng vd' 4, row hd, row h.lst, h.rest.kept gr (Or.inr hb.1), h.out.kept gr (Or.inr hb.2), fun y hy => row (h.ints y hy), gr.os.trans h.os, gr.tape.trans h.tape, gr.output.trans h.output, Nat.le_trans h.size gr.size, fun b hb1 hb2 => (gr.block b (Nat.lt_of_lt_of_le hb1 h.size) (fun e => by cases e; exact hb2 rfl)).trans (h.block b hb1 hb2)⟩
end

end Go.Proofs.YtfldcmdhneegmaaGreatDoor

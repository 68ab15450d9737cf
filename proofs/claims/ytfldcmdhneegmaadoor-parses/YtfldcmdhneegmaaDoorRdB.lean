/-
  THE READER's WALKS, 2: addStep, addPlus.
-/
import Derived.Test.YtfldcmdhneegmaaDoorRdA
import Derived.RegionTactic
import Derived.BigRegion
namespace Go.Proofs.YtfldcmdhneegmaaDoor
open Go.RowKit Go.Lib

theorem Tryd.infoStep : (Tryd.prog.info? 90).map (fun i => (i.zero, i.size, i.bytes)) = some (some (.agg #[.int .i32 0, .bool false]), 2, 8) := by kernel_rfl

/-- Behind the append: what the reader is once the new value and the new place are stored. -/
theorem rd_grown {b base : Nat} {s : Pl.St} {v v' : Value} {c : Int} {w w1 : World} {o : Obj} (h : Rd b base s v w)
    (hown : w1.ownsRow base 90 2 v' (s.l.length + 1) (stepCells s.l ++ [.int .i32 c, .bool false])) (hg : (w.alloc o).grownBy w1 v.ownBlock) :
    Rd b base { s with pl := 1, l := s.l ++ [(c, false)] } v' ((w1.setCell ⟨b, 1, none⟩ v').setCell ⟨b, 0, none⟩ (.int .i64 1)) ∧ Kept b w ((w1.setCell ⟨b, 1, none⟩ v').setCell ⟨b, 0, none⟩ (.int .i64 1)) ∧ w1.cell? ⟨b, 1, none⟩ = some v ∧ w1.cell? ⟨b, 0, none⟩ = some (.int .i64 s.pl) ∧ (∀ k, w1.frozen? ⟨b, k, none⟩ = false) := by
  have hbs : b < w.heap.size := lt_of_block h.blk
  have hne : some b ≠ v.ownBlock := fun e => by have := (own_block h.own b e.symm).1; have := h.lt; omega
  have hb1 : w1.heap[b]? = some (.cells #[.int .i64 s.pl, v, .int .i64 s.win] 70 (0, 0)) := by
    rw [hg.block b (by simp; omega) hne, Below.heap_alloc _ _ _ hbs]; exact h.blk
  have hsz : w.heap.size + 1 ≤ w1.heap.size := by have := hg.size; simpa using this
  refine ⟨⟨?_, ?_, h.lt, ?_⟩, ⟨?_, ?_⟩, by simp [World.cell?, hb1], by simp [World.cell?, hb1], fun k => by simp [World.frozen?, hb1]⟩
  · exact (blk_set (blk_set hb1 v').2.1 _).1
  · have := ownsRow_setCell_below (ownsRow_setCell_below hown (a := ⟨b, 1, none⟩) h.lt v') (a := ⟨b, 0, none⟩) h.lt (.int .i64 1)
    simpa [stepCells] using this
  · have := h.le; simp [World.setCell]; omega
  · exact ((((Below.refl b w).alloc (by omega) o).grown hg (by simp; omega) (fun k hk => by have := (own_block h.own k hk).1; have := h.lt; omega)).setCell (Nat.le_refl _) _).setCell (Nat.le_refl _) _
  · refine ((((OthersKept.refl _ (some b) w).alloc o).grown hg (fun g hg' => ?_)).setCell _ rfl _).setCell _ rfl _
    obtain ⟨c', fz, e1⟩ := (own_block h.own g hg').2
    exact ⟨c', fz, by rw [Below.heap_alloc _ _ _ (lt_of_block e1)]; exact e1⟩

set_option maxHeartbeats 2000000 in
theorem addStep_any (b base : Nat) (s : Pl.St) (v : Value) (c : Int) (w : World) (h : Rd b base s v w) (ho : Pl.Ok s) :
    Calls Tryd.prog 72 #[.pointer (some ⟨b, 0, none⟩), .int .i32 c] w fun e w' => After b base (Pl.addStep s c) w e w' := by
  have c0 := h.c0
  have c1 := h.c1
  have f0 := h.fz 0
  have f1 := h.fz 1
  have h4 := ho.l4
  obtain ⟨ao, cap, rfl⟩ := own_slice h.own
  have HR : Hid (Rd b base s (.slice ao s.l.length cap) w) := h
  clear h
  by_cases h0 : s.pl = 0
  · by_cases hl : s.l.length = 4
    · have h0' : (s.pl == 0) = true := by simpa using h0
      have h0n : (s.pl != 0) = false := by simpa using h0
      have hl' : ((s.l.length : Int) == 4) = true := by simp; omega
      rw [show Pl.addStep s c = none by simp [Pl.addStep, hl]]
      clear h0 hl
      go_enter Tryd.func72, Tryd.ntmps72
      go_wp2
      go_ret
      exact ⟨Kept.refl _ _, rfl⟩
    · have h0n : (s.pl != 0) = false := by simpa using h0
      have hl' : ((s.l.length : Int) == 4) = false := by simp; omega
      rw [show Pl.addStep s c = some { s with pl := 1, l := s.l ++ [(c, false)] } by simp [Pl.addStep, h0, hl]]
      clear h0 hl
      obtain ⟨i0, hi, hz0, hz1, hz2⟩ := info_parts Tryd.infoStep
      go_enter Tryd.func72, Tryd.ntmps72
      go_wp2_with (at_builtin; refine wpList_append_own _ rfl _ _ 35 rfl base 90 i0 (.agg #[.int .i32 0, .bool false]) 2 8 Tryd.underlying35 hi hz0 hz1 hz2 rfl (by decide) _ _ _ rfl (HR.out.own.alloc _) ⟨w.heap.size, 0, none⟩ 1 1 [.int .i32 c, .bool false] rfl rfl ?c1 ?c2 ?c3 ?c4 ?c5 ?_)
      case c1 =>
        intro j u hj
        match j, hj with
        | 0, hj => simp at hj; subst hj; simp [Addr.add]
        | 1, hj => simp at hj; subst hj; simp [Addr.add]
      case c2 => intro u hu; simp at hu; rcases hu with rfl | rfl <;> rfl
      case c3 => unfold maxLen; omega
      case c4 => omega
      case c5 => have := HR.out.le; simp; omega
      intro v' w1 hown' hgrow _
      obtain ⟨ao', cap', rfl⟩ := own_slice hown'
      obtain ⟨r1, k1, d1, d0, fz⟩ := rd_grown HR.out hown' hgrow
      have g0 := fz 0
      have g1 := fz 1
      have R2 : Hid (_ ∧ _) := ⟨r1, k1⟩
      clear r1 k1 hown' hgrow fz
      go_wp2
      go_ret
      exact ⟨R2.out.2, rfl, _, R2.out.1⟩
  · have h0n : (s.pl != 0) = true := by simpa using h0
    rw [show Pl.addStep s c = none by simp [Pl.addStep, h0]]
    go_enter Tryd.func72, Tryd.ntmps72
    go_wp2
    go_ret
    exact ⟨Kept.refl _ _, rfl⟩

end Go.Proofs.YtfldcmdhneegmaaDoor

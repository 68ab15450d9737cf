import Derived.Test.YtfldcmdhneegmabGreatDoorZ32
import Derived.OwnWalk
import Derived.Lib.AppendZerosOnto
import Derived.Lib.SliceRun

/-
  package slices' WALKS at rows of bytes: Grow of nil, Concat of three.
-/
namespace Go.Proofs.YtfldcmdhneegmabGreatDoor
open Go.RowKit Go.Lib

set_option maxHeartbeats 1000000 in
set_option maxRecDepth 1000000 in
theorem growB_nil (n : Nat) (w : World) (hn : n ≤ 200000000) :
    Calls Tryz.prog 163 #[.slice none 0 0, .int .i64 n] w fun e w' => ∃ v, e = .returned v ∧ w'.ownsRow w.heap.size 5 1 v 0 [] ∧ Below w.heap.size w w' := by
  obtain ⟨i0, hi, hz0, hz1, hz2⟩ := info_parts Tryz.infoByteW
  by_cases h0 : n = 0
  · subst h0
    go_enter Tryz.func163, Tryz.ntmps163
    go_wp2
    go_ret
    exact ⟨_, rfl, World.ownsRow_nil _ _ _ _, Below.refl _ _⟩
  · have h0' : (0 : Int) < (n : Int) := by omega
    have hold := run_firstCells_none (P := Tryz.prog) w.drew 1 0 0 0
    have hrz : ∀ ty, (Builtin.append_ #[25, 3] ty #[.slice none 0 0, .int .i64 n]).run Tryz.prog w =
        .ok (.slice (some ⟨w.heap.size, 0, none⟩) n (grownCap w n 0 5)) (w.drew.alloc (.cells (Builtin.zeroCells #[.int .u8 0] n ++ Builtin.zeroCells #[.int .u8 0] (grownCap w n 0 5 - n)) 5)) := fun ty => by
      have h := Lib.run_append_grow_zeros (P := Tryz.prog) w 25 3 ty 5 i0 (.int .u8 0) .i64 .i64 Tryz.underlying25 Tryz.underlying3 hi hz0 none 0 0 [] (by rw [hz1]; exact hold) n (by omega) (by omega) (by omega) (by omega) (by rw [hz2]; omega) (by rw [hz2, Nat.zero_add]; exact growslice_fits (by omega) (by omega))
      simpa [Value.cells] using h
    have hge : n ≤ grownCap w n 0 5 := grownCap_ge w _ _ _
    have hmx : grownCap w n 0 5 ≤ maxLen := grownCap_le_maxLen w n 0 5 (by unfold maxLen; omega)
    obtain ⟨G, hG⟩ : ∃ G, G = grownCap w n 0 5 := ⟨_, rfl⟩
    rw [← hG] at hrz hge hmx
    clear hold hG
    have hmx' : G ≤ 9223372036854775807 := by unfold maxLen at hmx; omega
    go_enter Tryz.func163, Tryz.ntmps163
    go_wp2_with (at_builtin; refine Lib.wpList_append_run _ rfl _ _ _ _ rfl _ _ rfl rfl _ _ (hrz _) ?_)
    go_ret
    refine ⟨_, rfl, ?_, ?_⟩
    · refine ⟨by simp, Or.inr ⟨w.heap.size, G, _, rfl, Nat.le_refl _, new_at (w := w.drew) rfl, Nat.zero_le _, hmx, ?_, by simp⟩⟩
      simp [Builtin.zeroCells]
      omega
    · exact (Below.drew (Below.refl _ w)).alloc (Nat.le_refl _) _

theorem res_threeB {W : World} {b : Nat} {x y z : Value} {t : TypeId} (h : W.heap[b]? = some (.cells #[x, y, z] t (0, 0))) : W.cell? ⟨b, 0, none⟩ = some x ∧ W.cell? ⟨b, 1, none⟩ = some y ∧ W.cell? ⟨b, 2, none⟩ = some z := by
  simp [World.cell?, h]
set_option maxHeartbeats 2000000 in
set_option maxRecDepth 1000000 in
theorem concatB_three (F G : Nat → Prop) (g : Nat) (x y z : Value) (a b c : List UInt8) (w : World) (hg : w.heap[g]? = some (.cells #[x, y, z] 25 (0, 0))) (hx : BytesAt F w x a) (hy : BytesAt G w y b) (hz : BytesAt F w z c) (hl : a.length + b.length + c.length ≤ 200000000) :
    Calls Tryz.prog 98 #[.slice (some ⟨g, 0, none⟩) 3 3] w fun e w' => ∃ v, e = .returned v ∧ w'.ownsRow w.heap.size 5 1 v (a ++ b ++ c).length (byteCells (a ++ b ++ c)) ∧ Below w.heap.size w w' := by
  obtain ⟨ax, cx, rfl, -, -⟩ := RowAt.slice hx
  obtain ⟨ay, cy, rfl, -, -⟩ := RowAt.slice hy
  obtain ⟨az, cz, rfl, -, -⟩ := RowAt.slice hz
  obtain ⟨c0, c1, c2⟩ := res_threeB hg
  obtain ⟨i0, hi, hz0, hz1, hz2⟩ := info_parts Tryz.infoByteW
  have HG := hid (growB_nil (a.length + b.length + c.length) w hl)
  have H := hid (And.intro hg (And.intro hx (And.intro hy hz)))
  clear hg hx hy hz
  go_enter Tryz.func98, Tryz.ntmps98
  go_wp2
  refine wp_loop_rounds 4 ?_
  rw [rounds_succ]
  go_wp2
  rw [rounds_succ]
  go_wp2
  rw [rounds_succ]
  go_wp2
  rw [rounds_succ]
  go_wp2_with (go_at_call 163; refine HG.out.mono ?_; rintro e w1 ⟨v, rfl, ho, hb⟩; have HB := hid (And.intro ho hb); clear ho hb)
  obtain ⟨c0', c1', c2'⟩ := res_threeB ((HB.out.2.block g (lt_of_block H.out.1)).trans H.out.1)
  refine wp_loop_rounds 4 ?_
  rw [rounds_succ]
  go_wp2_with (at_builtin; refine wpList_append_row rfl _ _ 25 rfl w.heap.size 5 i0 (.int .u8 0) 1 1 Tryz.underlying25 hi hz0 hz1 hz2 rfl (by decide) _ _ _ rfl HB.out.1 F _ a.length (byteCells a) rfl (H.out.2.1.below HB.out.2) (oneCell_bytes _) (by unfold maxLen; omega) (by omega) HB.out.2.size ?_)
  intro v2 w2 ho2 hg2
  have hb2 : Below w.heap.size w w2 := HB.out.2.grown hg2 HB.out.2.size (fun k hk => (own_block HB.out.1 k hk).1)
  obtain ⟨c0'', c1'', c2''⟩ := res_threeB ((hb2.block g (lt_of_block H.out.1)).trans H.out.1)
  have HB2 := hid (And.intro ho2 hb2)
  clear ho2 hg2 hb2
  go_wp2
  rw [rounds_succ]
  go_wp2_with (at_builtin; refine wpList_append_row rfl _ _ 25 rfl w.heap.size 5 i0 (.int .u8 0) 1 1 Tryz.underlying25 hi hz0 hz1 hz2 rfl (by decide) _ _ _ rfl HB2.out.1 G _ b.length (byteCells b) rfl (H.out.2.2.1.below HB2.out.2) (oneCell_bytes _) (by unfold maxLen; omega) (by omega) HB2.out.2.size ?_)
  intro v3 w3 ho3 hg3
  have hb3 : Below w.heap.size w w3 := HB2.out.2.grown hg3 HB2.out.2.size (fun k hk => (own_block HB2.out.1 k hk).1)
  obtain ⟨d0, d1, d2⟩ := res_threeB ((hb3.block g (lt_of_block H.out.1)).trans H.out.1)
  have HB3 := hid (And.intro ho3 hb3)
  clear ho3 hg3 hb3
  go_wp2
  rw [rounds_succ]
  go_wp2_with (at_builtin; refine wpList_append_row rfl _ _ 25 rfl w.heap.size 5 i0 (.int .u8 0) 1 1 Tryz.underlying25 hi hz0 hz1 hz2 rfl (by decide) _ _ _ rfl HB3.out.1 F _ c.length (byteCells c) rfl (H.out.2.2.2.below HB3.out.2) (oneCell_bytes _) (by unfold maxLen; omega) (by omega) HB3.out.2.size ?_)
  intro v4 w4 ho4 hg4
  have hb4 : Below w.heap.size w w4 := HB3.out.2.grown hg4 HB3.out.2.size (fun k hk => (own_block HB3.out.1 k hk).1)
  have HB4 := hid (And.intro ho4 hb4)
  clear ho4 hg4 hb4
  go_wp2
  rw [rounds_succ]
  go_wp2
  go_ret
  refine ⟨_, rfl, ?_, HB4.out.2⟩
  have h := HB4.out.1
  have e1 : (a ++ b ++ c).length = a.length + b.length + c.length := by rw [List.length_append, List.length_append]
  have e2 : byteCells (a ++ b ++ c) = byteCells a ++ (byteCells b ++ byteCells c) := by simp [byteCells]
  rw [e1, e2]
  exact h

end Go.Proofs.YtfldcmdhneegmabGreatDoor

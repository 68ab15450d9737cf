/-
  THE READER's WALKS, 3: addPlus.
-/
import Derived.Test.YtfldcmdhneegmaaDoorRdB
namespace Go.Proofs.YtfldcmdhneegmaaDoor
open Go.RowKit Go.Lib

theorem stepCells_plus (l : List (Int × Bool)) (m : Nat) (hm : l.length = m + 1) : stepCells (Pl.plusLast l) = (stepCells l).set (m * 2 + 1) (.bool true) := by
  induction l generalizing m with
  | nil => simp at hm
  | cons x r ih =>
    cases r with
    | nil =>
      obtain rfl : m = 0 := by simpa using hm.symm
      rfl
    | cons y r =>
      obtain ⟨k, rfl⟩ : ∃ k, m = k + 1 := ⟨m - 1, by simp at hm; omega⟩
      have := ih k (by simpa using hm)
      have e : (k + 1) * 2 + 1 = (k * 2 + 1) + 1 + 1 := by omega
      show [Value.int .i32 x.1, .bool x.2] ++ stepCells (Pl.plusLast (y :: r)) = ([Value.int .i32 x.1, .bool x.2] ++ stepCells (y :: r)).set _ _
      rw [this, e]
      rfl

theorem rd_plus {b base g cap m : Nat} {s : Pl.St} {w : World} (h : Rd b base s (.slice (some ⟨g, 0, none⟩) s.l.length cap) w) (hm : s.l.length = m + 1) :
    Rd b base { s with pl := 2, l := Pl.plusLast s.l } (.slice (some ⟨g, 0, none⟩) s.l.length cap) ((w.setCell ⟨g, m * 2 + 1, none⟩ (.bool true)).setCell ⟨b, 0, none⟩ (.int .i64 2)).drew ∧
    Kept b w ((w.setCell ⟨g, m * 2 + 1, none⟩ (.bool true)).setCell ⟨b, 0, none⟩ (.int .i64 2)).drew := by
  obtain ⟨hbg, c', fz, hgg⟩ := own_block h.own g rfl
  have hlt := h.lt
  obtain ⟨h1, h2⟩ := h.own.stored (m * 2 + 1) (.bool true)
  refine ⟨⟨?_, ?_, h.lt, by simpa [World.setCell, World.drew] using h.le⟩, ⟨?_, ?_⟩⟩
  · exact (blk_set (by rw [Below.heap_setCell _ _ _ _ (by show b ≠ g; omega)]; exact h.blk) _).1
  · have := (ownsRow_setCell_below h1 (a := ⟨b, 0, none⟩) h.lt (.int .i64 2)).drew
    rw [← stepCells_plus s.l m hm] at this
    simpa [Pl.plusLast_length] using this
  · exact (((Below.refl b w).setCell (p := ⟨g, m * 2 + 1, none⟩) (by show b ≤ g; omega) _).setCell (p := ⟨b, 0, none⟩) (Nat.le_refl _) _).drew
  · exact (((OthersKept.refl _ (some b) w).grown h2 (fun k hk => by cases hk; exact ⟨c', fz, hgg⟩)).setCell _ rfl _).drew

set_option maxHeartbeats 2000000 in
theorem addPlus_any (b base : Nat) (s : Pl.St) (v : Value) (w : World) (h : Rd b base s v w) (ho : Pl.Ok s) :
    Calls Tryd.prog 71 #[.pointer (some ⟨b, 0, none⟩)] w fun e w' => After b base (Pl.addPlus s) w e w' := by
  have c0 := h.c0
  have c1 := h.c1
  have f0 := h.fz 0
  by_cases h1 : s.pl = 1
  · have hne := ho.one (by omega)
    have h4 := ho.l4
    have h1n : (s.pl != 1) = false := by simpa using h1
    rcases h.own.2 with ⟨_, hz⟩ | ⟨g, cap, cur, rfl, hg, hgg, hnc, hcm, hcs, htk⟩
    · exact absurd (List.length_eq_zero_iff.1 hz) hne
    · obtain ⟨m, hm⟩ : ∃ m, s.l.length = m + 1 := ⟨s.l.length - 1, by have := List.length_pos_iff.2 hne; omega⟩
      rw [hm] at hnc
      have hgl : g < w.heap.size := lt_of_block hgg
      have hcg : ∃ u, w.cell? ⟨g, m * 2 + 1, none⟩ = some u := by
        refine ⟨cur[m * 2 + 1]'(by omega), ?_⟩
        simp [World.cell?, hgg]
      obtain ⟨u, hcg⟩ := hcg
      have hfg : w.frozen? ⟨g, m * 2 + 1, none⟩ = false := by simp [World.frozen?, hgg]
      have HR : Hid (Rd b base s (.slice (some ⟨g, 0, none⟩) s.l.length cap) w) := h
      rw [hm] at c1
      have hbg : b ≠ g := by have := h.lt; omega
      rw [show Pl.addPlus s = some { s with pl := 2, l := Pl.plusLast s.l } by simp [Pl.addPlus, h1]]
      clear h h1 htk hcs hgg ho
      have Hm : Hid (s.l.length = m + 1) := hm
      have hm4 : m + 1 ≤ 4 := by omega
      clear hm h4
      go_enter Tryd.func71, Tryd.ntmps71
      go_wp2
      go_region
      all_goals go_wp2
      all_goals go_ret
      all_goals exact ⟨(rd_plus HR.out Hm.out).2, rfl, _, (rd_plus HR.out Hm.out).1⟩
  · have h1n : (s.pl != 1) = true := by simpa using h1
    rw [show Pl.addPlus s = none by simp [Pl.addPlus, h1]]
    clear h
    go_enter Tryd.func71, Tryd.ntmps71
    go_wp2
    go_ret
    exact ⟨Kept.refl _ _, rfl⟩

end Go.Proofs.YtfldcmdhneegmaaDoor

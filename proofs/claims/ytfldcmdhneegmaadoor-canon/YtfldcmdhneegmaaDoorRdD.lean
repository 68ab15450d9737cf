/-
  THE READER's WALKS, 4: takeOfSteps, take.
-/
import Derived.Test.YtfldcmdhneegmaaDoorRdC
namespace Go.Proofs.YtfldcmdhneegmaaDoor
open Go.RowKit Go.Lib

theorem Rd.below {b base : Nat} {s : Pl.St} {v : Value} {w w1 : World} (h : Rd b base s v w) (hb : Below w.heap.size w w1) : Rd b base s v w1 :=
  ⟨by rw [hb.block b (lt_of_block h.blk)]; exact h.blk, own_below h.own hb, h.lt, Nat.le_trans h.le hb.size⟩
theorem kept_below {b : Nat} {w w1 : World} (hlt : b < w.heap.size) (hb : Below w.heap.size w w1) : Kept b w w1 :=
  ⟨hb.mono (by omega), fun k o hk _ _ => by rw [hb.block k (lt_of_block hk)]; exact hk⟩
theorem After.trans {b base : Nat} {r : Option Pl.St} {w w1 w2 : World} {e : Ending} (k : Kept b w w1) (h : After b base r w1 e w2) : After b base r w e w2 := ⟨k.trans h.1, h.2⟩

theorem after_none {b base : Nat} {w w' : World} {e : Ending} (h : After b base none w e w') : Hid (Kept b w w') ∧ e = .returned (.bool false) := h
theorem after_some {b base : Nat} {s : Pl.St} {w w' : World} {e : Ending} (h : After b base (some s) w e w') : Hid (Kept b w w' ∧ ∃ v, Rd b base s v w') ∧ e = .returned (.bool true) := ⟨⟨h.1, h.2.2⟩, h.2.1⟩

set_option maxHeartbeats 2000000 in
theorem takeSteps_any (b base : Nat) (s : Pl.St) (v : Value) (c : Int) (w : World) (h : Rd b base s v w) (ho : Pl.Ok s) (clo : -2147483648 ≤ c) (chi : c ≤ 2147483647)
    (hL : Calls Tryd.prog 19 #[.int .i32 c] w fun e w' => e = .returned (.bool (isLetterU c)) ∧ Below w.heap.size w w') :
    Calls Tryd.prog 49 #[.pointer (some ⟨b, 0, none⟩), .int .i32 c] w fun e w' => After b base (Pl.takeSteps s c) w e w' := by
  have c0 := h.c0
  have c1 := h.c1
  have f0 := h.fz 0
  have HL := hid (hL)
  clear hL
  by_cases h32 : c = 32
  · have R2 : Hid (Rd b base { s with pl := 0 } v (w.setCell ⟨b, 0, none⟩ (.int .i64 0))) := h.setPl 0
    have K2 : Hid (Kept b w (w.setCell ⟨b, 0, none⟩ (.int .i64 0))) := (Kept.refl b w).setCell 0 _
    subst h32
    rw [show Pl.takeSteps s 32 = some { s with pl := 0 } by simp [Pl.takeSteps]]
    clear h
    go_enter Tryd.func49, Tryd.ntmps49
    go_wp2
    go_ret
    exact ⟨K2.out, rfl, v, R2.out⟩
  by_cases h43 : c = 43
  · subst h43
    have HC := hid (addPlus_any b base s v w h ho)
    rw [show Pl.takeSteps s 43 = Pl.addPlus s by simp [Pl.takeSteps]]
    generalize Pl.addPlus s = r at HC ⊢
    clear h h32
    cases r with
    | none =>
      go_enter Tryd.func49, Tryd.ntmps49
      go_wp2_with (go_at_call 71; refine HC.out.mono ?_; intro e w' ha; obtain ⟨hk, rfl⟩ := after_none ha; clear ha)
      go_ret
      exact ⟨hk.out, rfl⟩
    | some s' =>
      go_enter Tryd.func49, Tryd.ntmps49
      go_wp2_with (go_at_call 71; refine HC.out.mono ?_; intro e w' ha; obtain ⟨hk, rfl⟩ := after_some ha; clear ha)
      go_ret
      exact ⟨hk.out.1, rfl, hk.out.2⟩
  by_cases h47 : c = 47
  · subst h47
    obtain ⟨ao, cap, rfl⟩ := own_slice h.own
    have R2 : Hid (Rd b base { s with pl := 3 } (.slice ao s.l.length cap) (w.setCell ⟨b, 0, none⟩ (.int .i64 3))) := h.setPl 3
    have K2 : Hid (Kept b w (w.setCell ⟨b, 0, none⟩ (.int .i64 3))) := (Kept.refl b w).setCell 0 _
    have h4 := ho.l4
    clear h h32 h43
    by_cases hl : 0 < s.l.length
    · have hl' : (0 : Int) < (s.l.length : Int) := by omega
      rw [show Pl.takeSteps s 47 = some { s with pl := 3 } by simp [Pl.takeSteps, List.length_pos_iff.1 hl]]
      go_enter Tryd.func49, Tryd.ntmps49
      go_wp2
      go_ret
      exact ⟨K2.out, by simp, _, R2.out⟩
    · have hl0 : s.l = [] := List.length_eq_zero_iff.1 (by omega)
      have hl' : ¬ (0 : Int) < (s.l.length : Int) := by omega
      rw [show Pl.takeSteps s 47 = none by simp [Pl.takeSteps, hl0]]
      have HZ := hid hl0
      clear hl0 hl
      go_enter Tryd.func49, Tryd.ntmps49
      go_wp2
      go_ret
      exact ⟨K2.out, by simp; exact HZ.out⟩
  have h32' : (c == 32) = false := by simpa using h32
  have h43' : (c == 43) = false := by simpa using h43
  have h47' : (c == 47) = false := by simpa using h47
  by_cases hl : isLetterU c = true
  · rw [show Pl.takeSteps s c = Pl.addStep s c by simp [Pl.takeSteps, h32, h43, h47, hl]]
    have HC : Hid (∀ w1, Below w.heap.size w w1 → Calls Tryd.prog 72 #[.pointer (some ⟨b, 0, none⟩), .int .i32 c] w1 fun e w' => After b base (Pl.addStep s c) w e w') := fun w1 hb =>
      (addStep_any b base s v c w1 (h.below hb) ho).mono fun e w' ha => After.trans (kept_below (lt_of_block h.blk) hb) ha
    generalize Pl.addStep s c = r at HC ⊢
    rw [hl] at HL
    clear h
    cases r with
    | none =>
      go_enter Tryd.func49, Tryd.ntmps49
      go_wp2_with (first | (go_at_call 19; refine HL.out.mono ?_; rintro e w1 ⟨rfl, hb⟩) | (go_at_call 72; refine (HC.out _ (by assumption)).mono ?_; intro e w' ha; obtain ⟨hk, rfl⟩ := after_none ha; clear ha))
      go_ret
      exact ⟨hk.out, rfl⟩
    | some s' =>
      go_enter Tryd.func49, Tryd.ntmps49
      go_wp2_with (first | (go_at_call 19; refine HL.out.mono ?_; rintro e w1 ⟨rfl, hb⟩) | (go_at_call 72; refine (HC.out _ (by assumption)).mono ?_; intro e w' ha; obtain ⟨hk, rfl⟩ := after_some ha; clear ha))
      go_ret
      exact ⟨hk.out.1, rfl, hk.out.2⟩
  · have hl' : isLetterU c = false := by simpa using hl
    rw [show Pl.takeSteps s c = none by simp [Pl.takeSteps, h32, h43, h47, hl']]
    rw [hl'] at HL
    have hlt : b < w.heap.size := lt_of_block h.blk
    clear h
    go_enter Tryd.func49, Tryd.ntmps49
    go_wp2_with (go_at_call 19; refine HL.out.mono ?_; rintro e w1 ⟨rfl, hb⟩)
    go_ret
    exact ⟨kept_below hlt hb, rfl⟩

set_option maxHeartbeats 2000000 in
theorem take_any (b base : Nat) (s : Pl.St) (v : Value) (c : Int) (w : World) (h : Rd b base s v w) (ho : Pl.Ok s) (clo : -2147483648 ≤ c) (chi : c ≤ 2147483647)
    (hL : Calls Tryd.prog 19 #[.int .i32 c] w fun e w' => e = .returned (.bool (isLetterU c)) ∧ Below w.heap.size w w') :
    Calls Tryd.prog 28 #[.pointer (some ⟨b, 0, none⟩), .int .i32 c] w fun e w' => After b base (Pl.take s c) w e w' := by
  have c0 := h.c0
  have hS := hid (takeSteps_any b base s v c w h ho clo chi hL)
  have hW := hid (takeWindow_any b base s v c w h ho clo chi)
  have p0 := ho.p0
  have p5 := ho.p5
  clear hL h
  by_cases hp : s.pl = 0 ∨ s.pl = 1 ∨ s.pl = 2
  · rw [show Pl.take s c = Pl.takeSteps s c by simp only [Pl.take]; rw [if_pos hp]]
    generalize Pl.takeSteps s c = r at hS ⊢
    clear hW
    rcases hp with hp | hp | hp
    all_goals
      rw [hp] at c0
      have HP := hid (hp)
      clear hp
      cases r with
      | none =>
        go_enter Tryd.func28, Tryd.ntmps28
        go_wp2_with (go_at_call 49; refine hS.out.mono ?_; intro e w' ha; obtain ⟨hk, rfl⟩ := after_none ha; clear ha)
        go_ret
        exact ⟨hk.out, rfl⟩
      | some s' =>
        go_enter Tryd.func28, Tryd.ntmps28
        go_wp2_with (go_at_call 49; refine hS.out.mono ?_; intro e w' ha; obtain ⟨hk, rfl⟩ := after_some ha; clear ha)
        go_ret
        exact ⟨hk.out.1, rfl, hk.out.2⟩
  · rw [show Pl.take s c = Pl.takeWindow s c by simp only [Pl.take]; rw [if_neg hp]]
    have n0 : (s.pl == 0) = false := by simp; omega
    have n1 : (s.pl == 1) = false := by simp; omega
    have n2 : (s.pl == 2) = false := by simp; omega
    generalize Pl.takeWindow s c = r at hW ⊢
    clear hS hp
    cases r with
    | none =>
      go_enter Tryd.func28, Tryd.ntmps28
      go_wp2_with (go_at_call 50; refine hW.out.mono ?_; intro e w' ha; obtain ⟨hk, rfl⟩ := after_none ha; clear ha)
      go_ret
      exact ⟨hk.out, rfl⟩
    | some s' =>
      go_enter Tryd.func28, Tryd.ntmps28
      go_wp2_with (go_at_call 50; refine hW.out.mono ?_; intro e w' ha; obtain ⟨hk, rfl⟩ := after_some ha; clear ha)
      go_ret
      exact ⟨hk.out.1, rfl, hk.out.2⟩

end Go.Proofs.YtfldcmdhneegmaaDoor

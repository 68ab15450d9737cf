import Derived.Test.YtfldcmdhneegmabGreatDoorZ19
import Derived.Test.YtfldcmdhneegmabGreatDoorAsX

/-
  package spotter's number, and its 'is', at the pattern's errors. Made by mkas.py.
-/
namespace Go.Proofs.YtfldcmdhneegmabGreatDoor
open Go.RowKit Go.Extern.Stop Go.Stop Go.Extern

set_option maxHeartbeats 4000000 in
theorem isLong_Long (n : Int) (w : World) (hg : ErrType w) :
    Calls Tryz.prog 38 #[.iface 95 (.agg #[.int .i64 n])] w fun e w' => e = .returned (.bool true) ∧ Below w.heap.size w w' := by
  have hA := hid (as_hitLong n ⟨w.heap.size, 0, none⟩ (.int .i64 0) (w.alloc (.cells #[.int .i64 0] 95)) (hg.alloc _) (by simp) (by simp))
  clear hg
  go_enter Tryz.func38, Tryz.ntmps38
  go_wp2_with (go_at_call 86; refine hA.out.mono ?_; rintro e w' ⟨rfl, hw⟩; have HW := hid hw; clear hw)
  go_ret
  refine ⟨rfl, ?_⟩
  rw [HW.out]
  exact ((((((Below.refl _ w).alloc (Nat.le_refl _) _).alloc (by simp) _).alloc (by simp <;> omega) _).alloc (by simp <;> omega) _).alloc (by simp <;> omega) _).setCell (Nat.le_refl _) _

set_option maxHeartbeats 4000000 in
theorem isLong_Syntax (v : Value) (w : World) (hg : ErrType w) :
    Calls Tryz.prog 38 #[.iface 199 v] w fun e w' => e = .returned (.bool false) ∧ Below w.heap.size w w' := by
  have hA := hid (fun o => as_missLongSyntax v ⟨w.heap.size, 0, none⟩ (w.alloc o) (hg.alloc o))
  clear hg
  go_enter Tryz.func38, Tryz.ntmps38
  go_wp2_with (go_at_call 86; refine (hA.out _).mono ?_; rintro e w' ⟨rfl, hw⟩; have HW := hid hw; clear hw)
  go_ret
  refine ⟨rfl, ?_⟩
  rw [HW.out]
  exact ((((Below.refl _ w).alloc (Nat.le_refl _) _).alloc (by simp) _).alloc (by simp <;> omega) _).alloc (by simp <;> omega) _

set_option maxHeartbeats 4000000 in
theorem isLate_Syntax (v : Value) (w : World) (hg : ErrType w) :
    Calls Tryz.prog 39 #[.iface 199 v] w fun e w' => e = .returned (.bool false) ∧ Below w.heap.size w w' := by
  have hA := hid (fun o => as_missLateSyntax v ⟨w.heap.size, 0, none⟩ (w.alloc o) (hg.alloc o))
  clear hg
  go_enter Tryz.func39, Tryz.ntmps39
  go_wp2_with (go_at_call 86; refine (hA.out _).mono ?_; rintro e w' ⟨rfl, hw⟩; have HW := hid hw; clear hw)
  go_ret
  refine ⟨rfl, ?_⟩
  rw [HW.out]
  exact ((((Below.refl _ w).alloc (Nat.le_refl _) _).alloc (by simp) _).alloc (by simp <;> omega) _).alloc (by simp <;> omega) _

set_option maxHeartbeats 4000000 in
theorem isFull_Syntax (v : Value) (w : World) (hg : ErrType w) :
    Calls Tryz.prog 40 #[.iface 199 v] w fun e w' => e = .returned (.bool false) ∧ Below w.heap.size w w' := by
  have hA := hid (fun o => as_missFullSyntax v ⟨w.heap.size, 0, none⟩ (w.alloc o) (hg.alloc o))
  clear hg
  go_enter Tryz.func40, Tryz.ntmps40
  go_wp2_with (go_at_call 86; refine (hA.out _).mono ?_; rintro e w' ⟨rfl, hw⟩; have HW := hid hw; clear hw)
  go_ret
  refine ⟨rfl, ?_⟩
  rw [HW.out]
  exact ((((Below.refl _ w).alloc (Nat.le_refl _) _).alloc (by simp) _).alloc (by simp <;> omega) _).alloc (by simp <;> omega) _

set_option maxHeartbeats 4000000 in
theorem isBytes_Syntax (v : Value) (w : World) (hg : ErrType w) :
    Calls Tryz.prog 41 #[.iface 199 v] w fun e w' => e = .returned (.bool false) ∧ Below w.heap.size w w' := by
  have hA := hid (fun o => as_missBytesSyntax v ⟨w.heap.size, 0, none⟩ (w.alloc o) (hg.alloc o))
  clear hg
  go_enter Tryz.func41, Tryz.ntmps41
  go_wp2_with (go_at_call 86; refine (hA.out _).mono ?_; rintro e w' ⟨rfl, hw⟩; have HW := hid hw; clear hw)
  go_ret
  refine ⟨rfl, ?_⟩
  rw [HW.out]
  exact ((((Below.refl _ w).alloc (Nat.le_refl _) _).alloc (by simp) _).alloc (by simp <;> omega) _).alloc (by simp <;> omega) _

set_option maxHeartbeats 4000000 in
theorem isFault_Syntax (v : Value) (w : World) (hg : ErrType w) :
    Calls Tryz.prog 42 #[.iface 199 v] w fun e w' => e = .returned (.bool false) ∧ Below w.heap.size w w' := by
  have hA := hid (fun o => as_missFaultSyntax v ⟨w.heap.size, 0, none⟩ (w.alloc o) (hg.alloc o))
  clear hg
  go_enter Tryz.func42, Tryz.ntmps42
  go_wp2_with (go_at_call 86; refine (hA.out _).mono ?_; rintro e w' ⟨rfl, hw⟩; have HW := hid hw; clear hw)
  go_ret
  refine ⟨rfl, ?_⟩
  rw [HW.out]
  exact ((((Below.refl _ w).alloc (Nat.le_refl _) _).alloc (by simp) _).alloc (by simp <;> omega) _).alloc (by simp <;> omega) _

set_option maxHeartbeats 4000000 in
theorem isOther_Syntax (v : Value) (w : World) (hg : ErrType w) :
    Calls Tryz.prog 43 #[.iface 199 v] w fun e w' => e = .returned (.bool false) ∧ Below w.heap.size w w' := by
  have hA := hid (fun o => as_missOtherSyntax v ⟨w.heap.size, 0, none⟩ (w.alloc o) (hg.alloc o))
  clear hg
  go_enter Tryz.func43, Tryz.ntmps43
  go_wp2_with (go_at_call 86; refine (hA.out _).mono ?_; rintro e w' ⟨rfl, hw⟩; have HW := hid hw; clear hw)
  go_ret
  refine ⟨rfl, ?_⟩
  rw [HW.out]
  exact ((((Below.refl _ w).alloc (Nat.le_refl _) _).alloc (by simp) _).alloc (by simp <;> omega) _).alloc (by simp <;> omega) _

set_option maxHeartbeats 4000000 in
theorem pnum_long (n : Int) (w : World) (hg : ErrType w) :
    Calls Tryz.prog 19 #[.iface 95 (.agg #[.int .i64 n])] w fun e w' => e = .returned (.int .i64 1) ∧ Below w.heap.size w w' := by
  have HG := hid hg
  clear hg
  go_enter Tryz.func19, Tryz.ntmps19
  go_wp2_with (first
    | (go_at_call 38; refine (isLong_Long _ _ HG.out).mono ?_; rintro e w1 ⟨rfl, hw⟩; have HW1 := hid hw; clear hw))
  go_ret
  exact ⟨rfl, HW1.out⟩

set_option maxHeartbeats 4000000 in
theorem pnum_syn (n : Int) (w : World) (hg : ErrType w) :
    Calls Tryz.prog 19 #[.iface 199 (.agg #[.int .i64 n])] w fun e w' => e = .returned (.int .i64 2) ∧ Below w.heap.size w w' := by
  have HG := hid hg
  clear hg
  go_enter Tryz.func19, Tryz.ntmps19
  go_wp2_with (first
    | (go_at_call 38; refine (isLong_Syntax _ _ HG.out).mono ?_; rintro e w1 ⟨rfl, hw⟩; have HW1 := hid hw; have HG1 := hid (HG.out.below hw); clear hw)
    | (go_at_call 39; refine (isLate_Syntax _ _ HG1.out).mono ?_; rintro e w2 ⟨rfl, hw⟩; have HW2 := hid hw; have HG2 := hid (HG1.out.below hw); clear hw)
    | (go_at_call 40; refine (isFull_Syntax _ _ HG2.out).mono ?_; rintro e w3 ⟨rfl, hw⟩; have HW3 := hid hw; have HG3 := hid (HG2.out.below hw); clear hw)
    | (go_at_call 41; refine (isBytes_Syntax _ _ HG3.out).mono ?_; rintro e w4 ⟨rfl, hw⟩; have HW4 := hid hw; have HG4 := hid (HG3.out.below hw); clear hw)
    | (go_at_call 42; refine (isFault_Syntax _ _ HG4.out).mono ?_; rintro e w5 ⟨rfl, hw⟩; have HW5 := hid hw; have HG5 := hid (HG4.out.below hw); clear hw)
    | (go_at_call 43; refine (isOther_Syntax _ _ HG5.out).mono ?_; rintro e w6 ⟨rfl, hw⟩; have HW6 := hid hw; clear hw))
  go_ret
  exact ⟨rfl, HW1.out.trans ((HW2.out.trans ((HW3.out.trans ((HW4.out.trans ((HW5.out.trans ((HW6.out).mono HW5.out.size)).mono HW4.out.size)).mono HW3.out.size)).mono HW2.out.size)).mono HW1.out.size)⟩

end Go.Proofs.YtfldcmdhneegmabGreatDoor

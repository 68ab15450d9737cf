/-
  package spotter's number at the chain's errors. Made by mkas.py.
-/
import Derived.Test.YtfldcmdhneegmaaDoorPNumZ
import Derived.Test.YtfldcmdhneegmaaDoorAsMFault
import Derived.Test.YtfldcmdhneegmaaDoorAsHFault
import Derived.Test.YtfldcmdhneegmaaDoorAsMOther
import Derived.Test.YtfldcmdhneegmaaDoorAsHOther
namespace Go.Proofs.YtfldcmdhneegmaaDoor
open Go.RowKit Go.Extern.Stop Go.Stop Go.Extern

set_option maxHeartbeats 4000000 in
theorem isLong_Fault (v : Value) (w : World) (hg : ErrType w) :
    Calls Tryd.prog 30 #[.iface 82 v] w fun e w' => e = .returned (.bool false) ∧ Below w.heap.size w w' := by
  have hA := hid (fun o => as_missLongFault v ⟨w.heap.size, 0, none⟩ (w.alloc o) (hg.alloc o))
  clear hg
  go_enter Tryd.func30, Tryd.ntmps30
  go_wp2_with (go_at_call 51; refine (hA.out _).mono ?_; rintro e w' ⟨rfl, hw⟩; have HW := hid hw; clear hw)
  go_ret
  refine ⟨rfl, ?_⟩
  rw [HW.out]
  exact ((((Below.refl _ w).alloc (Nat.le_refl _) _).alloc (by simp) _).alloc (by simp <;> omega) _).alloc (by simp <;> omega) _

set_option maxHeartbeats 4000000 in
theorem isLate_Fault (v : Value) (w : World) (hg : ErrType w) :
    Calls Tryd.prog 31 #[.iface 82 v] w fun e w' => e = .returned (.bool false) ∧ Below w.heap.size w w' := by
  have hA := hid (fun o => as_missLateFault v ⟨w.heap.size, 0, none⟩ (w.alloc o) (hg.alloc o))
  clear hg
  go_enter Tryd.func31, Tryd.ntmps31
  go_wp2_with (go_at_call 51; refine (hA.out _).mono ?_; rintro e w' ⟨rfl, hw⟩; have HW := hid hw; clear hw)
  go_ret
  refine ⟨rfl, ?_⟩
  rw [HW.out]
  exact ((((Below.refl _ w).alloc (Nat.le_refl _) _).alloc (by simp) _).alloc (by simp <;> omega) _).alloc (by simp <;> omega) _

set_option maxHeartbeats 4000000 in
theorem isFull_Fault (v : Value) (w : World) (hg : ErrType w) :
    Calls Tryd.prog 32 #[.iface 82 v] w fun e w' => e = .returned (.bool false) ∧ Below w.heap.size w w' := by
  have hA := hid (fun o => as_missFullFault v ⟨w.heap.size, 0, none⟩ (w.alloc o) (hg.alloc o))
  clear hg
  go_enter Tryd.func32, Tryd.ntmps32
  go_wp2_with (go_at_call 51; refine (hA.out _).mono ?_; rintro e w' ⟨rfl, hw⟩; have HW := hid hw; clear hw)
  go_ret
  refine ⟨rfl, ?_⟩
  rw [HW.out]
  exact ((((Below.refl _ w).alloc (Nat.le_refl _) _).alloc (by simp) _).alloc (by simp <;> omega) _).alloc (by simp <;> omega) _

set_option maxHeartbeats 4000000 in
theorem isBytes_Fault (v : Value) (w : World) (hg : ErrType w) :
    Calls Tryd.prog 33 #[.iface 82 v] w fun e w' => e = .returned (.bool false) ∧ Below w.heap.size w w' := by
  have hA := hid (fun o => as_missBytesFault v ⟨w.heap.size, 0, none⟩ (w.alloc o) (hg.alloc o))
  clear hg
  go_enter Tryd.func33, Tryd.ntmps33
  go_wp2_with (go_at_call 51; refine (hA.out _).mono ?_; rintro e w' ⟨rfl, hw⟩; have HW := hid hw; clear hw)
  go_ret
  refine ⟨rfl, ?_⟩
  rw [HW.out]
  exact ((((Below.refl _ w).alloc (Nat.le_refl _) _).alloc (by simp) _).alloc (by simp <;> omega) _).alloc (by simp <;> omega) _

set_option maxHeartbeats 4000000 in
theorem isFault_Fault (s : ByteArray) (w : World) (hg : ErrType w) :
    Calls Tryd.prog 34 #[.iface 82 (.agg #[.string s])] w fun e w' => e = .returned (.bool true) ∧ Below w.heap.size w w' := by
  have hA := hid (as_hitFault s ⟨w.heap.size, 0, none⟩ (.string ⟨#[]⟩) (w.alloc (.cells #[.string ⟨#[]⟩] 82)) (hg.alloc _) (by simp) (by simp))
  clear hg
  go_enter Tryd.func34, Tryd.ntmps34
  go_wp2_with (go_at_call 51; refine hA.out.mono ?_; rintro e w' ⟨rfl, hw⟩; have HW := hid hw; clear hw)
  go_ret
  refine ⟨rfl, ?_⟩
  rw [HW.out]
  exact ((((((Below.refl _ w).alloc (Nat.le_refl _) _).alloc (by simp) _).alloc (by simp <;> omega) _).alloc (by simp <;> omega) _).alloc (by simp <;> omega) _).setCell (Nat.le_refl _) _

set_option maxHeartbeats 4000000 in
theorem number_fault (s : ByteArray) (w : World) (hg : ErrType w) :
    Calls Tryd.prog 15 #[.iface 82 (.agg #[.string s])] w fun e w' => e = .returned (.int .i64 5) ∧ Below w.heap.size w w' := by
  have HG := hid hg
  clear hg
  go_enter Tryd.func15, Tryd.ntmps15
  go_wp2_with (first
    | (go_at_call 30; refine (isLong_Fault _ _ HG.out).mono ?_; rintro e w1 ⟨rfl, hw⟩; have HW1 := hid hw; have HG1 := hid (HG.out.below hw); clear hw)
    | (go_at_call 31; refine (isLate_Fault _ _ HG1.out).mono ?_; rintro e w2 ⟨rfl, hw⟩; have HW2 := hid hw; have HG2 := hid (HG1.out.below hw); clear hw)
    | (go_at_call 32; refine (isFull_Fault _ _ HG2.out).mono ?_; rintro e w3 ⟨rfl, hw⟩; have HW3 := hid hw; have HG3 := hid (HG2.out.below hw); clear hw)
    | (go_at_call 33; refine (isBytes_Fault _ _ HG3.out).mono ?_; rintro e w4 ⟨rfl, hw⟩; have HW4 := hid hw; have HG4 := hid (HG3.out.below hw); clear hw)
    | (go_at_call 34; refine (isFault_Fault _ _ HG4.out).mono ?_; rintro e w5 ⟨rfl, hw⟩; have HW5 := hid hw; clear hw))
  go_ret
  exact ⟨rfl, HW1.out.trans ((HW2.out.trans ((HW3.out.trans ((HW4.out.trans ((HW5.out).mono HW4.out.size)).mono HW3.out.size)).mono HW2.out.size)).mono HW1.out.size)⟩

set_option maxHeartbeats 4000000 in
theorem isLong_Other (v : Value) (w : World) (hg : ErrType w) :
    Calls Tryd.prog 30 #[.iface 85 v] w fun e w' => e = .returned (.bool false) ∧ Below w.heap.size w w' := by
  have hA := hid (fun o => as_missLongOther v ⟨w.heap.size, 0, none⟩ (w.alloc o) (hg.alloc o))
  clear hg
  go_enter Tryd.func30, Tryd.ntmps30
  go_wp2_with (go_at_call 51; refine (hA.out _).mono ?_; rintro e w' ⟨rfl, hw⟩; have HW := hid hw; clear hw)
  go_ret
  refine ⟨rfl, ?_⟩
  rw [HW.out]
  exact ((((Below.refl _ w).alloc (Nat.le_refl _) _).alloc (by simp) _).alloc (by simp <;> omega) _).alloc (by simp <;> omega) _

set_option maxHeartbeats 4000000 in
theorem isLate_Other (v : Value) (w : World) (hg : ErrType w) :
    Calls Tryd.prog 31 #[.iface 85 v] w fun e w' => e = .returned (.bool false) ∧ Below w.heap.size w w' := by
  have hA := hid (fun o => as_missLateOther v ⟨w.heap.size, 0, none⟩ (w.alloc o) (hg.alloc o))
  clear hg
  go_enter Tryd.func31, Tryd.ntmps31
  go_wp2_with (go_at_call 51; refine (hA.out _).mono ?_; rintro e w' ⟨rfl, hw⟩; have HW := hid hw; clear hw)
  go_ret
  refine ⟨rfl, ?_⟩
  rw [HW.out]
  exact ((((Below.refl _ w).alloc (Nat.le_refl _) _).alloc (by simp) _).alloc (by simp <;> omega) _).alloc (by simp <;> omega) _

set_option maxHeartbeats 4000000 in
theorem isFull_Other (v : Value) (w : World) (hg : ErrType w) :
    Calls Tryd.prog 32 #[.iface 85 v] w fun e w' => e = .returned (.bool false) ∧ Below w.heap.size w w' := by
  have hA := hid (fun o => as_missFullOther v ⟨w.heap.size, 0, none⟩ (w.alloc o) (hg.alloc o))
  clear hg
  go_enter Tryd.func32, Tryd.ntmps32
  go_wp2_with (go_at_call 51; refine (hA.out _).mono ?_; rintro e w' ⟨rfl, hw⟩; have HW := hid hw; clear hw)
  go_ret
  refine ⟨rfl, ?_⟩
  rw [HW.out]
  exact ((((Below.refl _ w).alloc (Nat.le_refl _) _).alloc (by simp) _).alloc (by simp <;> omega) _).alloc (by simp <;> omega) _

set_option maxHeartbeats 4000000 in
theorem isBytes_Other (v : Value) (w : World) (hg : ErrType w) :
    Calls Tryd.prog 33 #[.iface 85 v] w fun e w' => e = .returned (.bool false) ∧ Below w.heap.size w w' := by
  have hA := hid (fun o => as_missBytesOther v ⟨w.heap.size, 0, none⟩ (w.alloc o) (hg.alloc o))
  clear hg
  go_enter Tryd.func33, Tryd.ntmps33
  go_wp2_with (go_at_call 51; refine (hA.out _).mono ?_; rintro e w' ⟨rfl, hw⟩; have HW := hid hw; clear hw)
  go_ret
  refine ⟨rfl, ?_⟩
  rw [HW.out]
  exact ((((Below.refl _ w).alloc (Nat.le_refl _) _).alloc (by simp) _).alloc (by simp <;> omega) _).alloc (by simp <;> omega) _

set_option maxHeartbeats 4000000 in
theorem isFault_Other (v : Value) (w : World) (hg : ErrType w) :
    Calls Tryd.prog 34 #[.iface 85 v] w fun e w' => e = .returned (.bool false) ∧ Below w.heap.size w w' := by
  have hA := hid (fun o => as_missFaultOther v ⟨w.heap.size, 0, none⟩ (w.alloc o) (hg.alloc o))
  clear hg
  go_enter Tryd.func34, Tryd.ntmps34
  go_wp2_with (go_at_call 51; refine (hA.out _).mono ?_; rintro e w' ⟨rfl, hw⟩; have HW := hid hw; clear hw)
  go_ret
  refine ⟨rfl, ?_⟩
  rw [HW.out]
  exact ((((Below.refl _ w).alloc (Nat.le_refl _) _).alloc (by simp) _).alloc (by simp <;> omega) _).alloc (by simp <;> omega) _

set_option maxHeartbeats 4000000 in
theorem isOther_Other (n m : Int) (w : World) (hg : ErrType w) :
    Calls Tryd.prog 35 #[.iface 85 (.agg #[.int .u32 n, .int .u32 m])] w fun e w' => e = .returned (.bool true) ∧ Below w.heap.size w w' := by
  have hA := hid (as_hitOther n m w.heap.size (.int .u32 0) (.int .u32 0) (w.alloc (.cells #[.int .u32 0, .int .u32 0] 85)) (hg.alloc _) (by simp) (by simp) (by simp) (by simp))
  clear hg
  go_enter Tryd.func35, Tryd.ntmps35
  go_wp2_with (go_at_call 51; refine hA.out.mono ?_; rintro e w' ⟨rfl, hw⟩; have HW := hid hw; clear hw)
  go_ret
  refine ⟨rfl, ?_⟩
  rw [HW.out]
  exact (((((((Below.refl _ w).alloc (Nat.le_refl _) _).alloc (by simp) _).alloc (by simp <;> omega) _).alloc (by simp <;> omega) _).alloc (by simp <;> omega) _).setCell (Nat.le_refl _) _).setCell (Nat.le_refl _) _

set_option maxHeartbeats 4000000 in
theorem number_other (n m : Int) (w : World) (hg : ErrType w) :
    Calls Tryd.prog 15 #[.iface 85 (.agg #[.int .u32 n, .int .u32 m])] w fun e w' => e = .returned (.int .i64 6) ∧ Below w.heap.size w w' := by
  have HG := hid hg
  clear hg
  go_enter Tryd.func15, Tryd.ntmps15
  go_wp2_with (first
    | (go_at_call 30; refine (isLong_Other _ _ HG.out).mono ?_; rintro e w1 ⟨rfl, hw⟩; have HW1 := hid hw; have HG1 := hid (HG.out.below hw); clear hw)
    | (go_at_call 31; refine (isLate_Other _ _ HG1.out).mono ?_; rintro e w2 ⟨rfl, hw⟩; have HW2 := hid hw; have HG2 := hid (HG1.out.below hw); clear hw)
    | (go_at_call 32; refine (isFull_Other _ _ HG2.out).mono ?_; rintro e w3 ⟨rfl, hw⟩; have HW3 := hid hw; have HG3 := hid (HG2.out.below hw); clear hw)
    | (go_at_call 33; refine (isBytes_Other _ _ HG3.out).mono ?_; rintro e w4 ⟨rfl, hw⟩; have HW4 := hid hw; have HG4 := hid (HG3.out.below hw); clear hw)
    | (go_at_call 34; refine (isFault_Other _ _ HG4.out).mono ?_; rintro e w5 ⟨rfl, hw⟩; have HW5 := hid hw; have HG5 := hid (HG4.out.below hw); clear hw)
    | (go_at_call 35; refine (isOther_Other _ _ _ HG5.out).mono ?_; rintro e w6 ⟨rfl, hw⟩; have HW6 := hid hw; clear hw))
  go_ret
  exact ⟨rfl, HW1.out.trans ((HW2.out.trans ((HW3.out.trans ((HW4.out.trans ((HW5.out.trans ((HW6.out).mono HW5.out.size)).mono HW4.out.size)).mono HW3.out.size)).mono HW2.out.size)).mono HW1.out.size)⟩

end Go.Proofs.YtfldcmdhneegmaaDoor

/-
  package spotter's number at an error about the bytes. Made by mkas.py.
-/
import Derived.Test.YtfldcmdhneegmaaDoorPNumZ
import Derived.Test.YtfldcmdhneegmaaDoorAsMBytes
import Derived.Test.YtfldcmdhneegmaaDoorAsHBytes
namespace Go.Proofs.YtfldcmdhneegmaaDoor
open Go.RowKit Go.Extern.Stop Go.Stop Go.Extern

set_option maxHeartbeats 4000000 in
theorem isLong_Bytes (v : Value) (w : World) (hg : ErrType w) :
    Calls Tryd.prog 30 #[.iface 80 v] w fun e w' => e = .returned (.bool false) ∧ Below w.heap.size w w' := by
  have hA := hid (fun o => as_missLongBytes v ⟨w.heap.size, 0, none⟩ (w.alloc o) (hg.alloc o))
  clear hg
  go_enter Tryd.func30, Tryd.ntmps30
  go_wp2_with (go_at_call 51; refine (hA.out _).mono ?_; rintro e w' ⟨rfl, hw⟩; have HW := hid hw; clear hw)
  go_ret
  refine ⟨rfl, ?_⟩
  rw [HW.out]
  exact ((((Below.refl _ w).alloc (Nat.le_refl _) _).alloc (by simp) _).alloc (by simp <;> omega) _).alloc (by simp <;> omega) _

set_option maxHeartbeats 4000000 in
theorem isLate_Bytes (v : Value) (w : World) (hg : ErrType w) :
    Calls Tryd.prog 31 #[.iface 80 v] w fun e w' => e = .returned (.bool false) ∧ Below w.heap.size w w' := by
  have hA := hid (fun o => as_missLateBytes v ⟨w.heap.size, 0, none⟩ (w.alloc o) (hg.alloc o))
  clear hg
  go_enter Tryd.func31, Tryd.ntmps31
  go_wp2_with (go_at_call 51; refine (hA.out _).mono ?_; rintro e w' ⟨rfl, hw⟩; have HW := hid hw; clear hw)
  go_ret
  refine ⟨rfl, ?_⟩
  rw [HW.out]
  exact ((((Below.refl _ w).alloc (Nat.le_refl _) _).alloc (by simp) _).alloc (by simp <;> omega) _).alloc (by simp <;> omega) _

set_option maxHeartbeats 4000000 in
theorem isFull_Bytes (v : Value) (w : World) (hg : ErrType w) :
    Calls Tryd.prog 32 #[.iface 80 v] w fun e w' => e = .returned (.bool false) ∧ Below w.heap.size w w' := by
  have hA := hid (fun o => as_missFullBytes v ⟨w.heap.size, 0, none⟩ (w.alloc o) (hg.alloc o))
  clear hg
  go_enter Tryd.func32, Tryd.ntmps32
  go_wp2_with (go_at_call 51; refine (hA.out _).mono ?_; rintro e w' ⟨rfl, hw⟩; have HW := hid hw; clear hw)
  go_ret
  refine ⟨rfl, ?_⟩
  rw [HW.out]
  exact ((((Below.refl _ w).alloc (Nat.le_refl _) _).alloc (by simp) _).alloc (by simp <;> omega) _).alloc (by simp <;> omega) _

set_option maxHeartbeats 4000000 in
theorem isBytes_Bytes (n : Int) (s : ByteArray) (w : World) (hg : ErrType w) :
    Calls Tryd.prog 33 #[.iface 80 (.agg #[.int .i64 n, .string s])] w fun e w' => e = .returned (.bool true) ∧ Below w.heap.size w w' := by
  have hA := hid (as_hitBytes n s w.heap.size (.int .i64 0) (.string ⟨#[]⟩) (w.alloc (.cells #[.int .i64 0, .string ⟨#[]⟩] 80)) (hg.alloc _) (by simp) (by simp) (by simp) (by simp))
  clear hg
  go_enter Tryd.func33, Tryd.ntmps33
  go_wp2_with (go_at_call 51; refine hA.out.mono ?_; rintro e w' ⟨rfl, hw⟩; have HW := hid hw; clear hw)
  go_ret
  refine ⟨rfl, ?_⟩
  rw [HW.out]
  exact (((((((Below.refl _ w).alloc (Nat.le_refl _) _).alloc (by simp) _).alloc (by simp <;> omega) _).alloc (by simp <;> omega) _).alloc (by simp <;> omega) _).setCell (Nat.le_refl _) _).setCell (Nat.le_refl _) _

set_option maxHeartbeats 4000000 in
theorem number_bytes (n : Int) (s : ByteArray) (w : World) (hg : ErrType w) :
    Calls Tryd.prog 15 #[.iface 80 (.agg #[.int .i64 n, .string s])] w fun e w' => e = .returned (.int .i64 5) ∧ Below w.heap.size w w' := by
  have HG := hid hg
  clear hg
  go_enter Tryd.func15, Tryd.ntmps15
  go_wp2_with (first
    | (go_at_call 30; refine (isLong_Bytes _ _ HG.out).mono ?_; rintro e w1 ⟨rfl, hw⟩; have HW1 := hid hw; have HG1 := hid (HG.out.below hw); clear hw)
    | (go_at_call 31; refine (isLate_Bytes _ _ HG1.out).mono ?_; rintro e w2 ⟨rfl, hw⟩; have HW2 := hid hw; have HG2 := hid (HG1.out.below hw); clear hw)
    | (go_at_call 32; refine (isFull_Bytes _ _ HG2.out).mono ?_; rintro e w3 ⟨rfl, hw⟩; have HW3 := hid hw; have HG3 := hid (HG2.out.below hw); clear hw)
    | (go_at_call 33; refine (isBytes_Bytes _ _ _ HG3.out).mono ?_; rintro e w4 ⟨rfl, hw⟩; have HW4 := hid hw; clear hw))
  go_ret
  exact ⟨rfl, HW1.out.trans ((HW2.out.trans ((HW3.out.trans ((HW4.out).mono HW3.out.size)).mono HW2.out.size)).mono HW1.out.size)⟩

end Go.Proofs.YtfldcmdhneegmaaDoor

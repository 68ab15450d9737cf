/-
  package spotter's number, and its 'is'.
-/
import Derived.Test.YtapoccocbcdgeaaDoorAsX
namespace Go.Proofs.YtapoccocbcdgeaaDoor
open Go.RowKit Go.Extern.Stop Go.Stop Go.Extern

/-- package errors' variable errorType holds the handle of the type error. -/
def ErrType (w : World) : Prop := w.cell? ⟨4, 0, none⟩ = some (.iface 128 (.agg #[.pointer (some ⟨8, 34, none⟩)]))
theorem ErrType.below {w w' : World} (h : ErrType w) (hb : Below w.heap.size w w') : ErrType w' := by
  have hlt : 4 < w.heap.size := World.block_lt_of_cell? w ⟨4, 0, none⟩ h
  unfold ErrType
  rw [World.cell?_of_block (a := ⟨4, 0, none⟩) (hb.block _ hlt)]
  exact h
theorem ErrType.alloc {w : World} (h : ErrType w) (o : Obj) : ErrType (w.alloc o) := h.below ((Below.refl _ w).alloc (Nat.le_refl _) o)

set_option maxHeartbeats 4000000 in
theorem isLong_long (n : Int) (w : World) (hg : ErrType w) :
    Calls Tryd.prog 18 #[.iface 52 (.agg #[.int .i64 n])] w fun e w' => e = .returned (.bool true) ∧ Below w.heap.size w w' := by
  have hA := hid (as_hitLong n ⟨w.heap.size, 0, none⟩ (.int .i64 0) (w.alloc (.cells #[.int .i64 0] 52)) (hg.alloc _) (by simp) (by simp))
  clear hg
  go_enter Tryd.func18, Tryd.ntmps18
  go_wp2_with (go_at_call 31; refine hA.out.mono ?_; rintro e w' ⟨rfl, hw⟩; have HW := hid hw; clear hw)
  go_ret
  refine ⟨rfl, ?_⟩
  rw [HW.out]
  exact ((((((Below.refl _ w).alloc (Nat.le_refl _) _).alloc (by simp) _).alloc (by simp; omega) _).alloc (by simp; omega) _).alloc (by simp; omega) _).setCell (Nat.le_refl _) _

set_option maxHeartbeats 4000000 in
theorem isLong_Syntax (v : Value) (w : World) (hg : ErrType w) :
    Calls Tryd.prog 18 #[.iface 57 v] w fun e w' => e = .returned (.bool false) ∧ Below w.heap.size w w' := by
  have hA := hid (fun o => as_missLongSyntax v ⟨w.heap.size, 0, none⟩ (w.alloc o) (hg.alloc o))
  clear hg
  go_enter Tryd.func18, Tryd.ntmps18
  go_wp2_with (go_at_call 31; refine (hA.out _).mono ?_; rintro e w' ⟨rfl, hw⟩; have HW := hid hw; clear hw)
  go_ret
  refine ⟨rfl, ?_⟩
  rw [HW.out]
  exact ((((Below.refl _ w).alloc (Nat.le_refl _) _).alloc (by simp) _).alloc (by simp; omega) _).alloc (by simp; omega) _

set_option maxHeartbeats 4000000 in
theorem isLate_Syntax (v : Value) (w : World) (hg : ErrType w) :
    Calls Tryd.prog 19 #[.iface 57 v] w fun e w' => e = .returned (.bool false) ∧ Below w.heap.size w w' := by
  have hA := hid (fun o => as_missLateSyntax v ⟨w.heap.size, 0, none⟩ (w.alloc o) (hg.alloc o))
  clear hg
  go_enter Tryd.func19, Tryd.ntmps19
  go_wp2_with (go_at_call 31; refine (hA.out _).mono ?_; rintro e w' ⟨rfl, hw⟩; have HW := hid hw; clear hw)
  go_ret
  refine ⟨rfl, ?_⟩
  rw [HW.out]
  exact ((((Below.refl _ w).alloc (Nat.le_refl _) _).alloc (by simp) _).alloc (by simp; omega) _).alloc (by simp; omega) _

set_option maxHeartbeats 4000000 in
theorem isFull_Syntax (v : Value) (w : World) (hg : ErrType w) :
    Calls Tryd.prog 20 #[.iface 57 v] w fun e w' => e = .returned (.bool false) ∧ Below w.heap.size w w' := by
  have hA := hid (fun o => as_missFullSyntax v ⟨w.heap.size, 0, none⟩ (w.alloc o) (hg.alloc o))
  clear hg
  go_enter Tryd.func20, Tryd.ntmps20
  go_wp2_with (go_at_call 31; refine (hA.out _).mono ?_; rintro e w' ⟨rfl, hw⟩; have HW := hid hw; clear hw)
  go_ret
  refine ⟨rfl, ?_⟩
  rw [HW.out]
  exact ((((Below.refl _ w).alloc (Nat.le_refl _) _).alloc (by simp) _).alloc (by simp; omega) _).alloc (by simp; omega) _

set_option maxHeartbeats 4000000 in
theorem isBytes_Syntax (v : Value) (w : World) (hg : ErrType w) :
    Calls Tryd.prog 21 #[.iface 57 v] w fun e w' => e = .returned (.bool false) ∧ Below w.heap.size w w' := by
  have hA := hid (fun o => as_missBytesSyntax v ⟨w.heap.size, 0, none⟩ (w.alloc o) (hg.alloc o))
  clear hg
  go_enter Tryd.func21, Tryd.ntmps21
  go_wp2_with (go_at_call 31; refine (hA.out _).mono ?_; rintro e w' ⟨rfl, hw⟩; have HW := hid hw; clear hw)
  go_ret
  refine ⟨rfl, ?_⟩
  rw [HW.out]
  exact ((((Below.refl _ w).alloc (Nat.le_refl _) _).alloc (by simp) _).alloc (by simp; omega) _).alloc (by simp; omega) _

set_option maxHeartbeats 4000000 in
theorem number_nil (w : World) :
    Calls Tryd.prog 9 #[.nilIface] w fun e w' => e = .returned (.int .i64 0) ∧ w' = w := by
  go_enter Tryd.func9, Tryd.ntmps9
  go_wp2
  go_ret
  exact ⟨rfl, rfl⟩

set_option maxHeartbeats 4000000 in
theorem pnum_long (n : Int) (w : World) (hg : ErrType w) :
    Calls Tryd.prog 9 #[.iface 52 (.agg #[.int .i64 n])] w fun e w' => e = .returned (.int .i64 1) ∧ Below w.heap.size w w' := by
  have hA := hid (isLong_long n w hg)
  clear hg
  go_enter Tryd.func9, Tryd.ntmps9
  go_wp2_with (go_at_call 18; refine hA.out.mono ?_; rintro e w' ⟨rfl, hw⟩; have HW := hid hw; clear hw)
  go_ret
  exact ⟨rfl, HW.out⟩

set_option maxHeartbeats 4000000 in
theorem pnum_syntax (n : Int) (w : World) (hg : ErrType w) :
    Calls Tryd.prog 9 #[.iface 57 (.agg #[.int .i64 n])] w fun e w' => e = .returned (.int .i64 2) ∧ Below w.heap.size w w' := by
  have HG := hid hg
  clear hg
  go_enter Tryd.func9, Tryd.ntmps9
  go_wp2_with (first
    | (go_at_call 18; refine (isLong_Syntax _ _ HG.out).mono ?_; rintro e w1 ⟨rfl, hw⟩; have HW := hid hw; have HG1 := hid (HG.out.below hw); clear hw)
    | (go_at_call 19; refine (isLate_Syntax _ _ HG1.out).mono ?_; rintro e w2 ⟨rfl, hw⟩; have HW2 := hid hw; have HG2 := hid (HG1.out.below hw); clear hw)
    | (go_at_call 20; refine (isFull_Syntax _ _ HG2.out).mono ?_; rintro e w3 ⟨rfl, hw⟩; have HW3 := hid hw; have HG3 := hid (HG2.out.below hw); clear hw)
    | (go_at_call 21; refine (isBytes_Syntax _ _ HG3.out).mono ?_; rintro e w4 ⟨rfl, hw⟩; have HW4 := hid hw; clear hw))
  go_ret
  exact ⟨rfl, HW.out.trans ((HW2.out.trans ((HW3.out.trans (HW4.out.mono HW3.out.size)).mono HW2.out.size)).mono HW.out.size)⟩

end Go.Proofs.YtapoccocbcdgeaaDoor

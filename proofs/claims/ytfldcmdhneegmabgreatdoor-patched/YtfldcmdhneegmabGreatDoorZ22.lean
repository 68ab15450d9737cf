import Derived.Test.YtfldcmdhneegmabGreatDoorZ19
import Derived.Test.YtfldcmdhneegmabGreatDoorZ20
import Derived.Test.YtfldcmdhneegmabGreatDoorZ21

/-
  errors.As at the targets of package spotter's 'is': where FullError misses. Made by mkas.py.
-/
namespace Go.Proofs.YtfldcmdhneegmabGreatDoor
open Go.RowKit Go.Extern.Stop Go.Stop Go.Extern

set_option maxHeartbeats 4000000 in
set_option maxRecDepth 100000 in
theorem as_missLongFull (v : Value) (t : Addr) (w : World) (hg : w.cell? ⟨0, 0, none⟩ = some (.iface 286 (.agg #[.pointer (some ⟨6, 55, none⟩)]))) :
    Calls Tryz.prog 86 #[.iface 99 v, .iface 171 (.pointer (some t))] w fun ev w' => ev = .returned (.bool false) ∧ w' = ((w.alloc (.cells #[.pointer (some t)] 171)).alloc (.cells #[.pointer (some ⟨6, 171, none⟩), .pointer (some ⟨w.heap.size, 0, none⟩), .int .u64 150] 240)).alloc (.cells #[.pointer (some ⟨6, 171, none⟩), .pointer (some ⟨w.heap.size, 0, none⟩), .int .u64 150] 240) := by
  have x28 := @run_callFunc_extern Tryz.prog 151 _ (fun args => ReflectliteValue.unpack (args.getD 0 (.tuple #[]))) Tryz.func151 (by kernel_rfl) (by kernel_rfl) (by kernel_rfl) (by kernel_rfl)
  have x29 := @run_callFunc_extern Tryz.prog 152 _ (ReflectliteValue.methodAny (ReflectliteValue.valueError "reflectlite.Value.Type" 0) (fun t _ _ _ => ReflectliteType.toType t)) Tryz.func152 (by kernel_rfl) (by kernel_rfl) (by kernel_rfl) (by kernel_rfl)
  have x30 := @run_callFunc_extern Tryz.prog 153 _ (ReflectliteValue.method (ReflectliteValue.valueError "reflectlite.Value.IsNil" 0) ReflectliteValue.isNil) Tryz.func153 (by kernel_rfl) (by kernel_rfl) (by kernel_rfl) (by kernel_rfl)
  have x70 := @run_callFunc_extern Tryz.prog 263 _ (ReflectliteType.abiMethod fun t => do pure (.int .u8 (← Rtype.kind t))) Tryz.func263 (by kernel_rfl) (by kernel_rfl) (by kernel_rfl) (by kernel_rfl)
  have x83 := @run_callFunc_extern Tryz.prog 289 _ (ReflectliteType.method ReflectliteType.elem) Tryz.func289 (by kernel_rfl) (by kernel_rfl) (by kernel_rfl) (by kernel_rfl)
  have x84 := @run_callFunc_extern Tryz.prog 290 _ (ReflectliteType.relation "Implements" ReflectliteType.implements_) Tryz.func290 (by kernel_rfl) (by kernel_rfl) (by kernel_rfl) (by kernel_rfl)
  have x40 := @run_callFunc_extern Tryz.prog 188 _ ReflectliteType.typeOf Tryz.func188 (by kernel_rfl) (by kernel_rfl) (by kernel_rfl) (by kernel_rfl)
  have x81 := @run_callFunc_extern Tryz.prog 287 _ (ReflectliteType.relation "AssignableTo" ReflectliteType.assignableTo) Tryz.func287 (by kernel_rfl) (by kernel_rfl) (by kernel_rfl) (by kernel_rfl)
  have x41 := @run_callFunc_extern Tryz.prog 189 _ (ReflectliteValue.method (ReflectliteValue.valueError "reflectlite.Value.Elem" 0) ReflectliteValue.elem) Tryz.func189 (by kernel_rfl) (by kernel_rfl) (by kernel_rfl) (by kernel_rfl)
  have x42 := @run_callFunc_extern Tryz.prog 190 _ ReflectliteValue.set Tryz.func190 (by kernel_rfl) (by kernel_rfl) (by kernel_rfl) (by kernel_rfl)
  have f28 := Tryz.valueOfPLong
  have f29 := Tryz.typePLong
  have mK := Tryz.methodKind
  have mE := Tryz.methodElem
  have mI := Tryz.methodImplements
  have mA := Tryz.methodAssignableTo
  have kP := Tryz.kindPLong
  have kL := Tryz.kindLLong
  have eP := Tryz.elemTPLong
  have iL := Tryz.implementsLLong
  have hlt : 0 < w.heap.size := World.block_lt_of_cell? w ⟨0, 0, none⟩ hg
  have n30 := Tryz.isNilPLong ⟨w.heap.size, 0, none⟩ t ((w.alloc (.cells #[.pointer (some t)] 171)).alloc (.cells #[.pointer (some ⟨6, 171, none⟩), .pointer (some ⟨w.heap.size, 0, none⟩), .int .u64 150] 240)) (by simp)
  have hg2 : ((w.alloc (.cells #[.pointer (some t)] 171)).alloc (.cells #[.pointer (some ⟨6, 171, none⟩), .pointer (some ⟨w.heap.size, 0, none⟩), .int .u64 150] 240)).cell? ⟨0, 0, none⟩ = some (.iface 286 (.agg #[.pointer (some ⟨6, 55, none⟩)])) := by
    rw [World.cell?_alloc_lt _ _ ⟨0, 0, none⟩ (by simp <;> omega), World.cell?_alloc_lt _ _ ⟨0, 0, none⟩ hlt]; exact hg
  have tO := Tryz.typeOfFull
  have aL := Tryz.assignableLongFull
  have a1 := Tryz.noAsFull
  have a2 := Tryz.noUnwrapFull
  have a3 := Tryz.noUnwrapsFull
  go_enter Tryz.func86, Tryz.ntmps86
  go_wp2
  refine wp_loop_rounds 1 ?_
  rw [rounds_succ]
  go_wp2
  go_ret
  exact ⟨rfl, rfl⟩

set_option maxHeartbeats 4000000 in
set_option maxRecDepth 100000 in
theorem as_missLateFull (v : Value) (t : Addr) (w : World) (hg : w.cell? ⟨0, 0, none⟩ = some (.iface 286 (.agg #[.pointer (some ⟨6, 55, none⟩)]))) :
    Calls Tryz.prog 86 #[.iface 99 v, .iface 172 (.pointer (some t))] w fun ev w' => ev = .returned (.bool false) ∧ w' = ((w.alloc (.cells #[.pointer (some t)] 172)).alloc (.cells #[.pointer (some ⟨6, 172, none⟩), .pointer (some ⟨w.heap.size, 0, none⟩), .int .u64 150] 240)).alloc (.cells #[.pointer (some ⟨6, 172, none⟩), .pointer (some ⟨w.heap.size, 0, none⟩), .int .u64 150] 240) := by
  have x28 := @run_callFunc_extern Tryz.prog 151 _ (fun args => ReflectliteValue.unpack (args.getD 0 (.tuple #[]))) Tryz.func151 (by kernel_rfl) (by kernel_rfl) (by kernel_rfl) (by kernel_rfl)
  have x29 := @run_callFunc_extern Tryz.prog 152 _ (ReflectliteValue.methodAny (ReflectliteValue.valueError "reflectlite.Value.Type" 0) (fun t _ _ _ => ReflectliteType.toType t)) Tryz.func152 (by kernel_rfl) (by kernel_rfl) (by kernel_rfl) (by kernel_rfl)
  have x30 := @run_callFunc_extern Tryz.prog 153 _ (ReflectliteValue.method (ReflectliteValue.valueError "reflectlite.Value.IsNil" 0) ReflectliteValue.isNil) Tryz.func153 (by kernel_rfl) (by kernel_rfl) (by kernel_rfl) (by kernel_rfl)
  have x70 := @run_callFunc_extern Tryz.prog 263 _ (ReflectliteType.abiMethod fun t => do pure (.int .u8 (← Rtype.kind t))) Tryz.func263 (by kernel_rfl) (by kernel_rfl) (by kernel_rfl) (by kernel_rfl)
  have x83 := @run_callFunc_extern Tryz.prog 289 _ (ReflectliteType.method ReflectliteType.elem) Tryz.func289 (by kernel_rfl) (by kernel_rfl) (by kernel_rfl) (by kernel_rfl)
  have x84 := @run_callFunc_extern Tryz.prog 290 _ (ReflectliteType.relation "Implements" ReflectliteType.implements_) Tryz.func290 (by kernel_rfl) (by kernel_rfl) (by kernel_rfl) (by kernel_rfl)
  have x40 := @run_callFunc_extern Tryz.prog 188 _ ReflectliteType.typeOf Tryz.func188 (by kernel_rfl) (by kernel_rfl) (by kernel_rfl) (by kernel_rfl)
  have x81 := @run_callFunc_extern Tryz.prog 287 _ (ReflectliteType.relation "AssignableTo" ReflectliteType.assignableTo) Tryz.func287 (by kernel_rfl) (by kernel_rfl) (by kernel_rfl) (by kernel_rfl)
  have x41 := @run_callFunc_extern Tryz.prog 189 _ (ReflectliteValue.method (ReflectliteValue.valueError "reflectlite.Value.Elem" 0) ReflectliteValue.elem) Tryz.func189 (by kernel_rfl) (by kernel_rfl) (by kernel_rfl) (by kernel_rfl)
  have x42 := @run_callFunc_extern Tryz.prog 190 _ ReflectliteValue.set Tryz.func190 (by kernel_rfl) (by kernel_rfl) (by kernel_rfl) (by kernel_rfl)
  have f28 := Tryz.valueOfPLate
  have f29 := Tryz.typePLate
  have mK := Tryz.methodKind
  have mE := Tryz.methodElem
  have mI := Tryz.methodImplements
  have mA := Tryz.methodAssignableTo
  have kP := Tryz.kindPLate
  have kL := Tryz.kindLLate
  have eP := Tryz.elemTPLate
  have iL := Tryz.implementsLLate
  have hlt : 0 < w.heap.size := World.block_lt_of_cell? w ⟨0, 0, none⟩ hg
  have n30 := Tryz.isNilPLate ⟨w.heap.size, 0, none⟩ t ((w.alloc (.cells #[.pointer (some t)] 172)).alloc (.cells #[.pointer (some ⟨6, 172, none⟩), .pointer (some ⟨w.heap.size, 0, none⟩), .int .u64 150] 240)) (by simp)
  have hg2 : ((w.alloc (.cells #[.pointer (some t)] 172)).alloc (.cells #[.pointer (some ⟨6, 172, none⟩), .pointer (some ⟨w.heap.size, 0, none⟩), .int .u64 150] 240)).cell? ⟨0, 0, none⟩ = some (.iface 286 (.agg #[.pointer (some ⟨6, 55, none⟩)])) := by
    rw [World.cell?_alloc_lt _ _ ⟨0, 0, none⟩ (by simp <;> omega), World.cell?_alloc_lt _ _ ⟨0, 0, none⟩ hlt]; exact hg
  have tO := Tryz.typeOfFull
  have aL := Tryz.assignableLateFull
  have a1 := Tryz.noAsFull
  have a2 := Tryz.noUnwrapFull
  have a3 := Tryz.noUnwrapsFull
  go_enter Tryz.func86, Tryz.ntmps86
  go_wp2
  refine wp_loop_rounds 1 ?_
  rw [rounds_succ]
  go_wp2
  go_ret
  exact ⟨rfl, rfl⟩

end Go.Proofs.YtfldcmdhneegmabGreatDoor

/-
  package spotter's number at the chain's errors. Made by mkas.py.
-/
namespace Go.Proofs.YtfldcmdhneegmabGreatDoor
open Go.RowKit Go.Extern.Stop Go.Stop Go.Extern

set_option maxHeartbeats 4000000 in
theorem isLong_Fault (v : Value) (w : World) (hg : ErrType w) :
    Calls Tryz.prog 38 #[.iface 103 v] w fun e w' => e = .returned (.bool false) ∧ Below w.heap.size w w' := by
  have hA := hid (fun o => as_missLongFault v ⟨w.heap.size, 0, none⟩ (w.alloc o) (hg.alloc o))
  clear hg
  go_enter Tryz.func38, Tryz.ntmps38
  go_wp2_with (go_at_call 86; refine (hA.out _).mono ?_; rintro e w' ⟨rfl, hw⟩; have HW := hid hw; clear hw)
  go_ret
  refine ⟨rfl, ?_⟩
  rw [HW.out]
  exact ((((Below.refl _ w).alloc (Nat.le_refl _) _).alloc (by simp) _).alloc (by simp <;> omega) _).alloc (by simp <;> omega) _

set_option maxHeartbeats 4000000 in
theorem isLate_Fault (v : Value) (w : World) (hg : ErrType w) :
    Calls Tryz.prog 39 #[.iface 103 v] w fun e w' => e = .returned (.bool false) ∧ Below w.heap.size w w' := by
  have hA := hid (fun o => as_missLateFault v ⟨w.heap.size, 0, none⟩ (w.alloc o) (hg.alloc o))
  clear hg
  go_enter Tryz.func39, Tryz.ntmps39
  go_wp2_with (go_at_call 86; refine (hA.out _).mono ?_; rintro e w' ⟨rfl, hw⟩; have HW := hid hw; clear hw)
  go_ret
  refine ⟨rfl, ?_⟩
  rw [HW.out]
  exact ((((Below.refl _ w).alloc (Nat.le_refl _) _).alloc (by simp) _).alloc (by simp <;> omega) _).alloc (by simp <;> omega) _

set_option maxHeartbeats 4000000 in
theorem isFull_Fault (v : Value) (w : World) (hg : ErrType w) :
    Calls Tryz.prog 40 #[.iface 103 v] w fun e w' => e = .returned (.bool false) ∧ Below w.heap.size w w' := by
  have hA := hid (fun o => as_missFullFault v ⟨w.heap.size, 0, none⟩ (w.alloc o) (hg.alloc o))
  clear hg
  go_enter Tryz.func40, Tryz.ntmps40
  go_wp2_with (go_at_call 86; refine (hA.out _).mono ?_; rintro e w' ⟨rfl, hw⟩; have HW := hid hw; clear hw)
  go_ret
  refine ⟨rfl, ?_⟩
  rw [HW.out]
  exact ((((Below.refl _ w).alloc (Nat.le_refl _) _).alloc (by simp) _).alloc (by simp <;> omega) _).alloc (by simp <;> omega) _

set_option maxHeartbeats 4000000 in
theorem isBytes_Fault (v : Value) (w : World) (hg : ErrType w) :
    Calls Tryz.prog 41 #[.iface 103 v] w fun e w' => e = .returned (.bool false) ∧ Below w.heap.size w w' := by
  have hA := hid (fun o => as_missBytesFault v ⟨w.heap.size, 0, none⟩ (w.alloc o) (hg.alloc o))
  clear hg
  go_enter Tryz.func41, Tryz.ntmps41
  go_wp2_with (go_at_call 86; refine (hA.out _).mono ?_; rintro e w' ⟨rfl, hw⟩; have HW := hid hw; clear hw)
  go_ret
  refine ⟨rfl, ?_⟩
  rw [HW.out]
  exact ((((Below.refl _ w).alloc (Nat.le_refl _) _).alloc (by simp) _).alloc (by simp <;> omega) _).alloc (by simp <;> omega) _

set_option maxHeartbeats 4000000 in
theorem isFault_Fault (s : ByteArray) (w : World) (hg : ErrType w) :
    Calls Tryz.prog 42 #[.iface 103 (.agg #[.string s])] w fun e w' => e = .returned (.bool true) ∧ Below w.heap.size w w' := by
  have hA := hid (as_hitFault s ⟨w.heap.size, 0, none⟩ (.string ⟨#[]⟩) (w.alloc (.cells #[.string ⟨#[]⟩] 103)) (hg.alloc _) (by simp) (by simp))
  clear hg
  go_enter Tryz.func42, Tryz.ntmps42
  go_wp2_with (go_at_call 86; refine hA.out.mono ?_; rintro e w' ⟨rfl, hw⟩; have HW := hid hw; clear hw)
  go_ret
  refine ⟨rfl, ?_⟩
  rw [HW.out]
  exact ((((((Below.refl _ w).alloc (Nat.le_refl _) _).alloc (by simp) _).alloc (by simp <;> omega) _).alloc (by simp <;> omega) _).alloc (by simp <;> omega) _).setCell (Nat.le_refl _) _

set_option maxHeartbeats 4000000 in
theorem number_fault (s : ByteArray) (w : World) (hg : ErrType w) :
    Calls Tryz.prog 19 #[.iface 103 (.agg #[.string s])] w fun e w' => e = .returned (.int .i64 5) ∧ Below w.heap.size w w' := by
  have HG := hid hg
  clear hg
  go_enter Tryz.func19, Tryz.ntmps19
  go_wp2_with (first
    | (go_at_call 38; refine (isLong_Fault _ _ HG.out).mono ?_; rintro e w1 ⟨rfl, hw⟩; have HW1 := hid hw; have HG1 := hid (HG.out.below hw); clear hw)
    | (go_at_call 39; refine (isLate_Fault _ _ HG1.out).mono ?_; rintro e w2 ⟨rfl, hw⟩; have HW2 := hid hw; have HG2 := hid (HG1.out.below hw); clear hw)
    | (go_at_call 40; refine (isFull_Fault _ _ HG2.out).mono ?_; rintro e w3 ⟨rfl, hw⟩; have HW3 := hid hw; have HG3 := hid (HG2.out.below hw); clear hw)
    | (go_at_call 41; refine (isBytes_Fault _ _ HG3.out).mono ?_; rintro e w4 ⟨rfl, hw⟩; have HW4 := hid hw; have HG4 := hid (HG3.out.below hw); clear hw)
    | (go_at_call 42; refine (isFault_Fault _ _ HG4.out).mono ?_; rintro e w5 ⟨rfl, hw⟩; have HW5 := hid hw; clear hw))
  go_ret
  exact ⟨rfl, HW1.out.trans ((HW2.out.trans ((HW3.out.trans ((HW4.out.trans ((HW5.out).mono HW4.out.size)).mono HW3.out.size)).mono HW2.out.size)).mono HW1.out.size)⟩

set_option maxHeartbeats 4000000 in
theorem isLong_Other (v : Value) (w : World) (hg : ErrType w) :
    Calls Tryz.prog 38 #[.iface 105 v] w fun e w' => e = .returned (.bool false) ∧ Below w.heap.size w w' := by
  have hA := hid (fun o => as_missLongOther v ⟨w.heap.size, 0, none⟩ (w.alloc o) (hg.alloc o))
  clear hg
  go_enter Tryz.func38, Tryz.ntmps38
  go_wp2_with (go_at_call 86; refine (hA.out _).mono ?_; rintro e w' ⟨rfl, hw⟩; have HW := hid hw; clear hw)
  go_ret
  refine ⟨rfl, ?_⟩
  rw [HW.out]
  exact ((((Below.refl _ w).alloc (Nat.le_refl _) _).alloc (by simp) _).alloc (by simp <;> omega) _).alloc (by simp <;> omega) _

set_option maxHeartbeats 4000000 in
theorem isLate_Other (v : Value) (w : World) (hg : ErrType w) :
    Calls Tryz.prog 39 #[.iface 105 v] w fun e w' => e = .returned (.bool false) ∧ Below w.heap.size w w' := by
  have hA := hid (fun o => as_missLateOther v ⟨w.heap.size, 0, none⟩ (w.alloc o) (hg.alloc o))
  clear hg
  go_enter Tryz.func39, Tryz.ntmps39
  go_wp2_with (go_at_call 86; refine (hA.out _).mono ?_; rintro e w' ⟨rfl, hw⟩; have HW := hid hw; clear hw)
  go_ret
  refine ⟨rfl, ?_⟩
  rw [HW.out]
  exact ((((Below.refl _ w).alloc (Nat.le_refl _) _).alloc (by simp) _).alloc (by simp <;> omega) _).alloc (by simp <;> omega) _

set_option maxHeartbeats 4000000 in
theorem isFull_Other (v : Value) (w : World) (hg : ErrType w) :
    Calls Tryz.prog 40 #[.iface 105 v] w fun e w' => e = .returned (.bool false) ∧ Below w.heap.size w w' := by
  have hA := hid (fun o => as_missFullOther v ⟨w.heap.size, 0, none⟩ (w.alloc o) (hg.alloc o))
  clear hg
  go_enter Tryz.func40, Tryz.ntmps40
  go_wp2_with (go_at_call 86; refine (hA.out _).mono ?_; rintro e w' ⟨rfl, hw⟩; have HW := hid hw; clear hw)
  go_ret
  refine ⟨rfl, ?_⟩
  rw [HW.out]
  exact ((((Below.refl _ w).alloc (Nat.le_refl _) _).alloc (by simp) _).alloc (by simp <;> omega) _).alloc (by simp <;> omega) _

set_option maxHeartbeats 4000000 in
theorem isBytes_Other (v : Value) (w : World) (hg : ErrType w) :
    Calls Tryz.prog 41 #[.iface 105 v] w fun e w' => e = .returned (.bool false) ∧ Below w.heap.size w w' := by
  have hA := hid (fun o => as_missBytesOther v ⟨w.heap.size, 0, none⟩ (w.alloc o) (hg.alloc o))
  clear hg
  go_enter Tryz.func41, Tryz.ntmps41
  go_wp2_with (go_at_call 86; refine (hA.out _).mono ?_; rintro e w' ⟨rfl, hw⟩; have HW := hid hw; clear hw)
  go_ret
  refine ⟨rfl, ?_⟩
  rw [HW.out]
  exact ((((Below.refl _ w).alloc (Nat.le_refl _) _).alloc (by simp) _).alloc (by simp <;> omega) _).alloc (by simp <;> omega) _

set_option maxHeartbeats 4000000 in
theorem isFault_Other (v : Value) (w : World) (hg : ErrType w) :
    Calls Tryz.prog 42 #[.iface 105 v] w fun e w' => e = .returned (.bool false) ∧ Below w.heap.size w w' := by
  have hA := hid (fun o => as_missFaultOther v ⟨w.heap.size, 0, none⟩ (w.alloc o) (hg.alloc o))
  clear hg
  go_enter Tryz.func42, Tryz.ntmps42
  go_wp2_with (go_at_call 86; refine (hA.out _).mono ?_; rintro e w' ⟨rfl, hw⟩; have HW := hid hw; clear hw)
  go_ret
  refine ⟨rfl, ?_⟩
  rw [HW.out]
  exact ((((Below.refl _ w).alloc (Nat.le_refl _) _).alloc (by simp) _).alloc (by simp <;> omega) _).alloc (by simp <;> omega) _

set_option maxHeartbeats 4000000 in
theorem isOther_Other (n m : Int) (w : World) (hg : ErrType w) :
    Calls Tryz.prog 43 #[.iface 105 (.agg #[.int .u32 n, .int .u32 m])] w fun e w' => e = .returned (.bool true) ∧ Below w.heap.size w w' := by
  have hA := hid (as_hitOther n m w.heap.size (.int .u32 0) (.int .u32 0) (w.alloc (.cells #[.int .u32 0, .int .u32 0] 105)) (hg.alloc _) (by simp) (by simp) (by simp) (by simp))
  clear hg
  go_enter Tryz.func43, Tryz.ntmps43
  go_wp2_with (go_at_call 86; refine hA.out.mono ?_; rintro e w' ⟨rfl, hw⟩; have HW := hid hw; clear hw)
  go_ret
  refine ⟨rfl, ?_⟩
  rw [HW.out]
  exact (((((((Below.refl _ w).alloc (Nat.le_refl _) _).alloc (by simp) _).alloc (by simp <;> omega) _).alloc (by simp <;> omega) _).alloc (by simp <;> omega) _).setCell (Nat.le_refl _) _).setCell (Nat.le_refl _) _

set_option maxHeartbeats 4000000 in
theorem number_other (n m : Int) (w : World) (hg : ErrType w) :
    Calls Tryz.prog 19 #[.iface 105 (.agg #[.int .u32 n, .int .u32 m])] w fun e w' => e = .returned (.int .i64 6) ∧ Below w.heap.size w w' := by
  have HG := hid hg
  clear hg
  go_enter Tryz.func19, Tryz.ntmps19
  go_wp2_with (first
    | (go_at_call 38; refine (isLong_Other _ _ HG.out).mono ?_; rintro e w1 ⟨rfl, hw⟩; have HW1 := hid hw; have HG1 := hid (HG.out.below hw); clear hw)
    | (go_at_call 39; refine (isLate_Other _ _ HG1.out).mono ?_; rintro e w2 ⟨rfl, hw⟩; have HW2 := hid hw; have HG2 := hid (HG1.out.below hw); clear hw)
    | (go_at_call 40; refine (isFull_Other _ _ HG2.out).mono ?_; rintro e w3 ⟨rfl, hw⟩; have HW3 := hid hw; have HG3 := hid (HG2.out.below hw); clear hw)
    | (go_at_call 41; refine (isBytes_Other _ _ HG3.out).mono ?_; rintro e w4 ⟨rfl, hw⟩; have HW4 := hid hw; have HG4 := hid (HG3.out.below hw); clear hw)
    | (go_at_call 42; refine (isFault_Other _ _ HG4.out).mono ?_; rintro e w5 ⟨rfl, hw⟩; have HW5 := hid hw; have HG5 := hid (HG4.out.below hw); clear hw)
    | (go_at_call 43; refine (isOther_Other _ _ _ HG5.out).mono ?_; rintro e w6 ⟨rfl, hw⟩; have HW6 := hid hw; clear hw))
  go_ret
  exact ⟨rfl, HW1.out.trans ((HW2.out.trans ((HW3.out.trans ((HW4.out.trans ((HW5.out.trans ((HW6.out).mono HW5.out.size)).mono HW4.out.size)).mono HW3.out.size)).mono HW2.out.size)).mono HW1.out.size)⟩

end Go.Proofs.YtfldcmdhneegmabGreatDoor

import Derived.Test.YtfldcmdhneegmabGreatDoorZ19
import Derived.Test.YtfldcmdhneegmabGreatDoorZ20
import Derived.Test.YtfldcmdhneegmabGreatDoorZ21
import Derived.Test.YtfldcmdhneegmabGreatDoorZ22

/-
  errors.As at the targets of package spotter's 'is': where FullError hits. Made by mkas.py.
-/
namespace Go.Proofs.YtfldcmdhneegmabGreatDoor
open Go.RowKit Go.Extern.Stop Go.Stop Go.Extern

set_option maxHeartbeats 2000000 in
theorem Tryz.setFull (tb bb : Nat) (s : ByteArray) (m : Int) (o0 o1 : Value) (W : World) (hb0 : W.cell? ⟨bb, 0, none⟩ = some (.string s)) (hb1 : W.cell? ⟨bb, 1, none⟩ = some (.int .i64 m)) (ht0 : W.cell? ⟨tb, 0, none⟩ = some o0) (ht1 : W.cell? ⟨tb, 1, none⟩ = some o1) (hf0 : W.frozen? ⟨tb, 0, none⟩ = false) (hf1 : W.frozen? ⟨tb, 1, none⟩ = false) :
    (ReflectliteValue.set #[.agg #[.pointer (some ⟨6, 99, none⟩), .pointer (some ⟨tb, 0, none⟩), .int .u64 409], .agg #[.pointer (some ⟨6, 99, none⟩), .pointer (some ⟨bb, 0, none⟩), .int .u64 153]]).run Tryz.prog W
      = .ok (.tuple #[]) ((W.setCell ⟨tb, 0, none⟩ (.string s)).setCell ⟨tb, 1, none⟩ (.int .i64 m)) := by
  have hl : (loadCells ⟨bb, 0, none⟩ 2).run Tryz.prog W = .ok #[.string s, .int .i64 m] W := by simp [loadCells, loadCellsFrom, hb0, hb1, Addr.add]
  have h1 : (W.setCell ⟨tb, 0, none⟩ (.string s)).cell? ⟨tb, 1, none⟩ = some o1 := (World.cell?_setCell_other W ⟨tb, 0, none⟩ ⟨tb, 1, none⟩ _ (fun e => by cases e)).trans ht1
  have h2 : (W.setCell ⟨tb, 0, none⟩ (.string s)).frozen? ⟨tb, 1, none⟩ = false := by simpa using hf1
  refine run_two (ReflectliteValue.parts (.agg #[.pointer (some ⟨6, 99, none⟩), .pointer (some ⟨tb, 0, none⟩), .int .u64 409])) (ReflectliteValue.parts (.agg #[.pointer (some ⟨6, 99, none⟩), .pointer (some ⟨bb, 0, none⟩), .int .u64 153])) rfl ?_
  simp only [Sem.run_bind, Tryz.partsLaFull, Tryz.partsLFull, Result.andThen]
  simp [ReflectliteValue.flagAddr, loadVar, isAgg, underlying, Tryz.underlying99, hl, Result.andThen, Tryz.directLFull, storeVar, Value.cells, storeCells, Addr.add]
  rw [run_store Tryz.prog W _ _ _ (by rfl)]
  simp [ht0, hf0]
  rw [run_store Tryz.prog _ _ _ _ (by rfl)]
  simp [h1, h2]

set_option maxHeartbeats 4000000 in
set_option maxRecDepth 100000 in
theorem as_hitFull (s : ByteArray) (m : Int) (tb : Nat) (o0 o1 : Value) (w : World) (hg : w.cell? ⟨0, 0, none⟩ = some (.iface 286 (.agg #[.pointer (some ⟨6, 55, none⟩)]))) (ht0 : w.cell? ⟨tb, 0, none⟩ = some o0) (ht1 : w.cell? ⟨tb, 1, none⟩ = some o1) (hf0 : w.frozen? ⟨tb, 0, none⟩ = false) (hf1 : w.frozen? ⟨tb, 1, none⟩ = false) :
    Calls Tryz.prog 86 #[.iface 99 (.agg #[.string s, .int .i64 m]), .iface 173 (.pointer (some ⟨tb, 0, none⟩))] w fun ev w' => ev = .returned (.bool true) ∧ w' = (((((w.alloc (.cells #[.pointer (some ⟨tb, 0, none⟩)] 173)).alloc (.cells #[.pointer (some ⟨6, 173, none⟩), .pointer (some ⟨w.heap.size, 0, none⟩), .int .u64 150] 240)).alloc (.cells #[.pointer (some ⟨6, 173, none⟩), .pointer (some ⟨w.heap.size, 0, none⟩), .int .u64 150] 240)).alloc (.cells #[.string s, .int .i64 m] 99)).setCell ⟨tb, 0, none⟩ (.string s)).setCell ⟨tb, 1, none⟩ (.int .i64 m) := by
  have x28 := @run_callFunc_extern Tryz.prog 151 _ (fun args => ReflectliteValue.unpack (args.getD 0 (.tuple #[]))) Tryz.func151 (by kernel_rfl) (by kernel_rfl) (by kernel_rfl) (by kernel_rfl)
  have x29 := @run_callFunc_extern Tryz.prog 152 _ (ReflectliteValue.methodAny (ReflectliteValue.valueError "reflectlite.Value.Type" 0) (fun t _ _ _ => ReflectliteType.toType t)) Tryz.func152 (by kernel_rfl) (by kernel_rfl) (by kernel_rfl) (by kernel_rfl)
  have x30 := @run_callFunc_extern Tryz.prog 153 _ (ReflectliteValue.method (ReflectliteValue.valueError "reflectlite.Value.IsNil" 0) ReflectliteValue.isNil) Tryz.func153 (by kernel_rfl) (by kernel_rfl) (by kernel_rfl) (by kernel_rfl)
  have x70 := @run_callFunc_extern Tryz.prog 263 _ (ReflectliteType.abiMethod fun t => do pure (.int .u8 (← Rtype.kind t))) Tryz.func263 (by kernel_rfl) (by kernel_rfl) (by kernel_rfl) (by kernel_rfl)
  have x83 := @run_callFunc_extern Tryz.prog 289 _ (ReflectliteType.method ReflectliteType.elem) Tryz.func289 (by kernel_rfl) (by kernel_rfl) (by kernel_rfl) (by kernel_rfl)
  have x84 := @run_callFunc_extern Tryz.prog 290 _ (ReflectliteType.relation "Implements" ReflectliteType.implements_) Tryz.func290 (by kernel_rfl) (by kernel_rfl) (by kernel_rfl) (by kernel_rfl)
  have x40 := @run_callFunc_extern Tryz.prog 188 _ ReflectliteType.typeOf Tryz.func188 (by kernel_rfl) (by kernel_rfl) (by kernel_rfl) (by kernel_rfl)
  have x81 := @run_callFunc_extern Tryz.prog 287 _ (ReflectliteType.relation "AssignableTo" ReflectliteType.assignableTo) Tryz.func287 (by kernel_rfl) (by kernel_rfl) (by kernel_rfl) (by kernel_rfl)
  have x41 := @run_callFunc_extern Tryz.prog 189 _ (ReflectliteValue.method (ReflectliteValue.valueError "reflectlite.Value.Elem" 0) ReflectliteValue.elem) Tryz.func189 (by kernel_rfl) (by kernel_rfl) (by kernel_rfl) (by kernel_rfl)
  have x42 := @run_callFunc_extern Tryz.prog 190 _ ReflectliteValue.set Tryz.func190 (by kernel_rfl) (by kernel_rfl) (by kernel_rfl) (by kernel_rfl)
  have f28 := Tryz.valueOfPFull
  have f29 := Tryz.typePFull
  have mK := Tryz.methodKind
  have mE := Tryz.methodElem
  have mI := Tryz.methodImplements
  have mA := Tryz.methodAssignableTo
  have kP := Tryz.kindPFull
  have kL := Tryz.kindLFull
  have eP := Tryz.elemTPFull
  have iL := Tryz.implementsLFull
  have hlt : 0 < w.heap.size := World.block_lt_of_cell? w ⟨0, 0, none⟩ hg
  have n30 := Tryz.isNilPFull ⟨w.heap.size, 0, none⟩ ⟨tb, 0, none⟩ ((w.alloc (.cells #[.pointer (some ⟨tb, 0, none⟩)] 173)).alloc (.cells #[.pointer (some ⟨6, 173, none⟩), .pointer (some ⟨w.heap.size, 0, none⟩), .int .u64 150] 240)) (by simp)
  have hg2 : ((w.alloc (.cells #[.pointer (some ⟨tb, 0, none⟩)] 173)).alloc (.cells #[.pointer (some ⟨6, 173, none⟩), .pointer (some ⟨w.heap.size, 0, none⟩), .int .u64 150] 240)).cell? ⟨0, 0, none⟩ = some (.iface 286 (.agg #[.pointer (some ⟨6, 55, none⟩)])) := by
    rw [World.cell?_alloc_lt _ _ ⟨0, 0, none⟩ (by simp <;> omega), World.cell?_alloc_lt _ _ ⟨0, 0, none⟩ hlt]; exact hg
  have tO := Tryz.typeOfFull
  have aL := Tryz.assignableFullFull
  have vL := Tryz.valueOfLFull
  have htl : tb < w.heap.size := World.block_lt_of_cell? w ⟨tb, 0, none⟩ ht0
  have el := Tryz.elemVPFull ⟨w.heap.size, 0, none⟩ ⟨tb, 0, none⟩ (((w.alloc (.cells #[.pointer (some ⟨tb, 0, none⟩)] 173)).alloc (.cells #[.pointer (some ⟨6, 173, none⟩), .pointer (some ⟨w.heap.size, 0, none⟩), .int .u64 150] 240)).alloc (.cells #[.pointer (some ⟨6, 173, none⟩), .pointer (some ⟨w.heap.size, 0, none⟩), .int .u64 150] 240)) (by rw [World.cell?_alloc_lt _ _ ⟨w.heap.size, 0, none⟩ (by simp <;> omega)]; simp)
  have st := Tryz.setFull tb (w.heap.size + 1 + 1 + 1) s m o0 o1 ((((w.alloc (.cells #[.pointer (some ⟨tb, 0, none⟩)] 173)).alloc (.cells #[.pointer (some ⟨6, 173, none⟩), .pointer (some ⟨w.heap.size, 0, none⟩), .int .u64 150] 240)).alloc (.cells #[.pointer (some ⟨6, 173, none⟩), .pointer (some ⟨w.heap.size, 0, none⟩), .int .u64 150] 240)).alloc (.cells #[.string s, .int .i64 m] 99))
    (by rw [World.cell?_alloc_at _ _ _ _ (by simp)]; rfl)
    (by rw [World.cell?_alloc_at _ _ _ _ (by simp)]; rfl)
    (by rw [World.cell?_alloc_lt _ _ ⟨tb, 0, none⟩ (by simp <;> omega), World.cell?_alloc_lt _ _ ⟨tb, 0, none⟩ (by simp <;> omega), World.cell?_alloc_lt _ _ ⟨tb, 0, none⟩ (by simp <;> omega), World.cell?_alloc_lt _ _ ⟨tb, 0, none⟩ htl]; exact ht0)
    (by rw [World.cell?_alloc_lt _ _ ⟨tb, 1, none⟩ (by simp <;> omega), World.cell?_alloc_lt _ _ ⟨tb, 1, none⟩ (by simp <;> omega), World.cell?_alloc_lt _ _ ⟨tb, 1, none⟩ (by simp <;> omega), World.cell?_alloc_lt _ _ ⟨tb, 1, none⟩ htl]; exact ht1)
    (by rw [World.frozen?_alloc_old _ _ ⟨tb, 0, none⟩ (by simp <;> omega), World.frozen?_alloc_old _ _ ⟨tb, 0, none⟩ (by simp <;> omega), World.frozen?_alloc_old _ _ ⟨tb, 0, none⟩ (by simp <;> omega), World.frozen?_alloc_old _ _ ⟨tb, 0, none⟩ (Nat.ne_of_lt htl)]; exact hf0)
    (by rw [World.frozen?_alloc_old _ _ ⟨tb, 1, none⟩ (by simp <;> omega), World.frozen?_alloc_old _ _ ⟨tb, 1, none⟩ (by simp <;> omega), World.frozen?_alloc_old _ _ ⟨tb, 1, none⟩ (by simp <;> omega), World.frozen?_alloc_old _ _ ⟨tb, 1, none⟩ (Nat.ne_of_lt htl)]; exact hf1)
  go_enter Tryz.func86, Tryz.ntmps86
  go_wp2
  refine wp_loop_rounds 1 ?_
  rw [rounds_succ]
  go_wp2
  go_ret
  exact ⟨rfl, rfl⟩

end Go.Proofs.YtfldcmdhneegmabGreatDoor

/-
  package spotter's number at the engine's errors. Made by mkas.py.
-/
namespace Go.Proofs.YtfldcmdhneegmabGreatDoor
open Go.RowKit Go.Extern.Stop Go.Stop Go.Extern

set_option maxHeartbeats 4000000 in
theorem isLong_Late (v : Value) (w : World) (hg : ErrType w) :
    Calls Tryz.prog 38 #[.iface 97 v] w fun e w' => e = .returned (.bool false) ∧ Below w.heap.size w w' := by
  have hA := hid (fun o => as_missLongLate v ⟨w.heap.size, 0, none⟩ (w.alloc o) (hg.alloc o))
  clear hg
  go_enter Tryz.func38, Tryz.ntmps38
  go_wp2_with (go_at_call 86; refine (hA.out _).mono ?_; rintro e w' ⟨rfl, hw⟩; have HW := hid hw; clear hw)
  go_ret
  refine ⟨rfl, ?_⟩
  rw [HW.out]
  exact ((((Below.refl _ w).alloc (Nat.le_refl _) _).alloc (by simp) _).alloc (by simp <;> omega) _).alloc (by simp <;> omega) _

set_option maxHeartbeats 4000000 in
theorem isLate_Late (n m : Int) (w : World) (hg : ErrType w) :
    Calls Tryz.prog 39 #[.iface 97 (.agg #[.int .i64 n, .int .i64 m])] w fun e w' => e = .returned (.bool true) ∧ Below w.heap.size w w' := by
  have hA := hid (as_hitLate n m w.heap.size (.int .i64 0) (.int .i64 0) (w.alloc (.cells #[.int .i64 0, .int .i64 0] 97)) (hg.alloc _) (by simp) (by simp) (by simp) (by simp))
  clear hg
  go_enter Tryz.func39, Tryz.ntmps39
  go_wp2_with (go_at_call 86; refine hA.out.mono ?_; rintro e w' ⟨rfl, hw⟩; have HW := hid hw; clear hw)
  go_ret
  refine ⟨rfl, ?_⟩
  rw [HW.out]
  exact (((((((Below.refl _ w).alloc (Nat.le_refl _) _).alloc (by simp) _).alloc (by simp <;> omega) _).alloc (by simp <;> omega) _).alloc (by simp <;> omega) _).setCell (Nat.le_refl _) _).setCell (Nat.le_refl _) _

set_option maxHeartbeats 4000000 in
theorem number_late (n m : Int) (w : World) (hg : ErrType w) :
    Calls Tryz.prog 19 #[.iface 97 (.agg #[.int .i64 n, .int .i64 m])] w fun e w' => e = .returned (.int .i64 3) ∧ Below w.heap.size w w' := by
  have HG := hid hg
  clear hg
  go_enter Tryz.func19, Tryz.ntmps19
  go_wp2_with (first
    | (go_at_call 38; refine (isLong_Late _ _ HG.out).mono ?_; rintro e w1 ⟨rfl, hw⟩; have HW1 := hid hw; have HG1 := hid (HG.out.below hw); clear hw)
    | (go_at_call 39; refine (isLate_Late _ _ _ HG1.out).mono ?_; rintro e w2 ⟨rfl, hw⟩; have HW2 := hid hw; clear hw))
  go_ret
  exact ⟨rfl, HW1.out.trans ((HW2.out).mono HW1.out.size)⟩

set_option maxHeartbeats 4000000 in
theorem isLong_Full (v : Value) (w : World) (hg : ErrType w) :
    Calls Tryz.prog 38 #[.iface 99 v] w fun e w' => e = .returned (.bool false) ∧ Below w.heap.size w w' := by
  have hA := hid (fun o => as_missLongFull v ⟨w.heap.size, 0, none⟩ (w.alloc o) (hg.alloc o))
  clear hg
  go_enter Tryz.func38, Tryz.ntmps38
  go_wp2_with (go_at_call 86; refine (hA.out _).mono ?_; rintro e w' ⟨rfl, hw⟩; have HW := hid hw; clear hw)
  go_ret
  refine ⟨rfl, ?_⟩
  rw [HW.out]
  exact ((((Below.refl _ w).alloc (Nat.le_refl _) _).alloc (by simp) _).alloc (by simp <;> omega) _).alloc (by simp <;> omega) _

set_option maxHeartbeats 4000000 in
theorem isLate_Full (v : Value) (w : World) (hg : ErrType w) :
    Calls Tryz.prog 39 #[.iface 99 v] w fun e w' => e = .returned (.bool false) ∧ Below w.heap.size w w' := by
  have hA := hid (fun o => as_missLateFull v ⟨w.heap.size, 0, none⟩ (w.alloc o) (hg.alloc o))
  clear hg
  go_enter Tryz.func39, Tryz.ntmps39
  go_wp2_with (go_at_call 86; refine (hA.out _).mono ?_; rintro e w' ⟨rfl, hw⟩; have HW := hid hw; clear hw)
  go_ret
  refine ⟨rfl, ?_⟩
  rw [HW.out]
  exact ((((Below.refl _ w).alloc (Nat.le_refl _) _).alloc (by simp) _).alloc (by simp <;> omega) _).alloc (by simp <;> omega) _

set_option maxHeartbeats 4000000 in
theorem isFull_Full (s : ByteArray) (m : Int) (w : World) (hg : ErrType w) :
    Calls Tryz.prog 40 #[.iface 99 (.agg #[.string s, .int .i64 m])] w fun e w' => e = .returned (.bool true) ∧ Below w.heap.size w w' := by
  have hA := hid (as_hitFull s m w.heap.size (.string ⟨#[]⟩) (.int .i64 0) (w.alloc (.cells #[.string ⟨#[]⟩, .int .i64 0] 99)) (hg.alloc _) (by simp) (by simp) (by simp) (by simp))
  clear hg
  go_enter Tryz.func40, Tryz.ntmps40
  go_wp2_with (go_at_call 86; refine hA.out.mono ?_; rintro e w' ⟨rfl, hw⟩; have HW := hid hw; clear hw)
  go_ret
  refine ⟨rfl, ?_⟩
  rw [HW.out]
  exact (((((((Below.refl _ w).alloc (Nat.le_refl _) _).alloc (by simp) _).alloc (by simp <;> omega) _).alloc (by simp <;> omega) _).alloc (by simp <;> omega) _).setCell (Nat.le_refl _) _).setCell (Nat.le_refl _) _

set_option maxHeartbeats 4000000 in
theorem number_full (s : ByteArray) (m : Int) (w : World) (hg : ErrType w) :
    Calls Tryz.prog 19 #[.iface 99 (.agg #[.string s, .int .i64 m])] w fun e w' => e = .returned (.int .i64 4) ∧ Below w.heap.size w w' := by
  have HG := hid hg
  clear hg
  go_enter Tryz.func19, Tryz.ntmps19
  go_wp2_with (first
    | (go_at_call 38; refine (isLong_Full _ _ HG.out).mono ?_; rintro e w1 ⟨rfl, hw⟩; have HW1 := hid hw; have HG1 := hid (HG.out.below hw); clear hw)
    | (go_at_call 39; refine (isLate_Full _ _ HG1.out).mono ?_; rintro e w2 ⟨rfl, hw⟩; have HW2 := hid hw; have HG2 := hid (HG1.out.below hw); clear hw)
    | (go_at_call 40; refine (isFull_Full _ _ _ HG2.out).mono ?_; rintro e w3 ⟨rfl, hw⟩; have HW3 := hid hw; clear hw))
  go_ret
  exact ⟨rfl, HW1.out.trans ((HW2.out.trans ((HW3.out).mono HW2.out.size)).mono HW1.out.size)⟩

end Go.Proofs.YtfldcmdhneegmabGreatDoor

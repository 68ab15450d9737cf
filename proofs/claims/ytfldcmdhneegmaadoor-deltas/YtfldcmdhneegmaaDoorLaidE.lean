/-
  WHAT THE ROWS' LISTS GIVE where errors.errorType is the one variable; a world for the witnesses.
-/
import Derived.Test.YtfldcmdhneegmaaDoorPNumZ
import Derived.Test.YtfldcmdhneegmaaDoorRows
import Derived.LaidHandle
import Derived.Stop.LaidErr
import Derived.Stop.Joined
import Derived.SizedLaws
namespace Go.Proofs.YtfldcmdhneegmaaDoor
open Go.RowKit Go.Lib

theorem Tryd.own : ownKnob Tryd.prog.godebug = none := by kernel_rfl
theorem Tryd.gErr : Tryd.prog.globalNamed "errors.errorType" = some 4 := by kernel_rfl
theorem Tryd.rt : (Tryd.prog.cutTypes.find? (·.1 == "internal/reflectlite.rtype")).map (·.2) = some 181 := by kernel_rfl
theorem Tryd.oneRow : ((List.range 232).filter fun t => Tryd.prog.rowNamed t [101, 114, 114, 111, 114]) = [39] := by kernel_rfl
theorem Tryd.typesSize : Tryd.prog.types.size = 232 := by kernel_rfl
/-- The handle of the type error. -/
theorem err_of_handles {W : World} (h : handlesMet Tryd.prog [("errors.errorType", Rows.laid_errors_errorType)] W) : ErrType W := by
  obtain ⟨name, u, ty, e1, e2, e3, e4, e5⟩ := h _ (List.mem_singleton.2 rfl)
  have en : name = [101, 114, 114, 111, 114] := (Option.some.inj e1).symm
  subst en
  obtain rfl := Option.some.inj (Tryd.rt.symm.trans e2)
  have hm : ty ∈ (List.range 232).filter fun t => Tryd.prog.rowNamed t [101, 114, 114, 111, 114] := List.mem_filter.2 ⟨List.mem_range.2 (by rw [← Tryd.typesSize]; exact e3), e4⟩
  rw [Tryd.oneRow] at hm
  obtain rfl := List.mem_singleton.1 hm
  have hh : typeHandle Tryd.prog 39 = .pointer (some ⟨8, 39, none⟩) := by kernel_rfl
  rw [hh] at e5
  have h0 := World.var?_cell Tryd.gErr e5 0
  unfold ErrType
  simpa using h0
theorem env_err {W : World} (h : laidMetH Tryd.prog [("errors.errorType", Rows.laid_errors_errorType)] W) : ErrType W := by
  have h' : laidMet Tryd.prog [] W ∧ handlesMet Tryd.prog [("errors.errorType", Rows.laid_errors_errorType)] W := h
  exact err_of_handles h'.2

/-- The variable holds what its initialiser lays. -/
def layErr (w : World) : World :=
  { w with heap := w.heap.modify 4 fun
    | .cells _ t frozen => .cells #[.iface 181 (.agg #[.pointer (some ⟨8, 39, none⟩)])] t frozen
    | o => o }

end Go.Proofs.YtfldcmdhneegmaaDoor

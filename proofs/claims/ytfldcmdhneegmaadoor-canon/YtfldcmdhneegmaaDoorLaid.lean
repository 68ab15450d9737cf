/-
  WHAT THE ROWS' LISTS GIVE: the library's variables as the walks ask for them.
-/
import Derived.Test.YtfldcmdhneegmaaDoorCanonW
import Derived.Test.YtfldcmdhneegmaaDoorRows
import Derived.LaidHandle
import Derived.Stop.LaidErr
import Derived.Stop.Joined
import Derived.Lib.LaidRTab
import Derived.PinnedBridge
import Derived.SizedLaws
namespace Go.Proofs.YtfldcmdhneegmaaDoor
open Go.RowKit Go.Lib Go.Shelf

theorem Tryd.own : ownKnob Tryd.prog.godebug = none := by kernel_rfl
theorem Tryd.gErr : Tryd.prog.globalNamed "errors.errorType" = some 4 := by kernel_rfl
theorem Tryd.rt : (Tryd.prog.cutTypes.find? (·.1 == "internal/reflectlite.rtype")).map (·.2) = some 181 := by kernel_rfl
theorem Tryd.oneRow : ((List.range 232).filter fun t => Tryd.prog.rowNamed t [101, 114, 114, 111, 114]) = [39] := by kernel_rfl
theorem Tryd.typesSize : Tryd.prog.types.size = 232 := by kernel_rfl
theorem Tryd.xL : RExtra Tryd.prog Tryd.lays200_ren := ⟨by kernel_rfl, by kernel_rfl, by kernel_rfl, by kernel_rfl, by kernel_rfl, by kernel_rfl, by kernel_rfl, by kernel_rfl⟩
theorem Tryd.cellsU8 : Tryd.prog.cellsOf 5 = 1 := by kernel_rfl
theorem Tryd.cellsU64 : Tryd.prog.cellsOf 60 = 1 := by kernel_rfl
theorem Tryd.cellsProps : Tryd.prog.cellsOf 96 = 256 := by kernel_rfl
theorem Tryd.cellsPow : Tryd.prog.cellsOf 196 = 20 := by kernel_rfl

/-- The handle of the type error. -/
theorem err_of_handles {W : World} (h : handlesMet Tryd.prog [("errors.errorType", Rows.laid_errors_errorType)] W) : ErrType W := by
  obtain ⟨name, u, ty, e1, e2, e3, e4, e5⟩ := h _ (List.mem_singleton.2 rfl)
  have en : name = [101, 114, 114, 111, 114] := (Option.some.inj e1).symm
  subst en
  obtain rfl := Option.some.inj (Tryd.rt.symm.trans e2)
  have hm : ty ∈ (List.range 232).filter fun t => Tryd.prog.rowNamed t [101, 114, 114, 111, 114] := List.mem_filter.2 ⟨List.mem_range.2 (by rw [← Tryd.typesSize]; exact e3), e4⟩
  rw [Tryd.oneRow] at hm
  obtain rfl := List.mem_singleton.1 hm
  have hh : typeHandle Tryd.prog 39 = .pointer (some ⟨8, 39, none⟩) := by kernel_rfl
  rw [hh] at e5
  have h0 := World.var?_cell Tryd.gErr e5 0
  unfold ErrType
  simpa using h0

set_option maxRecDepth 100000 in
theorem pow_eq : Rows.laid_internal_strconv_uint64pow10 = (tabData .u64 pow10Tab : DataW Unit) := by kernel_rfl
set_option maxRecDepth 100000 in
theorem props_eq : Rows.laid_unicode_properties = (tabData .u8 propertiesTab : DataW Unit) := by kernel_rfl
theorem pow_of_head {W : World} {rest : List (String × DataW Unit)} (h : laidMet Tryd.prog (("internal/strconv.uint64pow10", Rows.laid_internal_strconv_uint64pow10) :: rest) W) : Pow10 W :=
  tabIs_of_head (g := 5) (t := 196) (e := 60) (zs := pow10Tab) (by kernel_rfl) (by kernel_rfl) Tryd.underlying196 Tryd.underlying60 Tryd.cellsU64 Tryd.cellsPow (by rw [← pow_eq]; exact h)
theorem props_of_head {W : World} {rest : List (String × DataW Unit)} (h : laidMet Tryd.prog (("unicode.properties", Rows.laid_unicode_properties) :: rest) W) : TabIs Tryd.prog W "unicode.properties" .u8 propertiesTab :=
  tabIs_of_head (g := 0) (t := 96) (e := 5) (zs := propertiesTab) (by kernel_rfl) (by kernel_rfl) Tryd.underlying96 Tryd.underlying5 Tryd.cellsU8 Tryd.cellsProps (by rw [← props_eq]; exact h)
theorem letter_of_reads {W : World} (h : VarReads Tryd.prog W "unicode.Letter" Rows.laid_unicode_Letter) : RVar 1 letterT W := by
  have h' : VarReads Tryd.prog W "unicode.Letter" (rtabData letterT) := by rw [← Pinned.letter_eq]; exact h
  exact rvar_of_reads { Tryd.lays200 with } Tryd.xL (by kernel_rfl) (by kernel_rfl) h'

theorem letters_of {W : World} (hp : TabIs Tryd.prog W "unicode.properties" .u8 propertiesTab) (hv : RVar 1 letterT W) : Letters W :=
  fun c W' h1 h2 hb => Tryd.unicode_IsLetter_all c W' h1 h2 (TabIs_below (g := 0) (by kernel_rfl) hp hb) (RVar_below hv hb)

/-- Canon's list. -/
theorem env_canon {W : World} (h : laidMetH Tryd.prog Rows.canonRow.laid W) : Env W := by
  have h' : laidMet Tryd.prog [("math/bits.deBruijn32tab", Rows.laid_math_bits_deBruijn32tab), ("math/bits.deBruijn64tab", Rows.laid_math_bits_deBruijn64tab), ("internal/strconv.uint64pow10", Rows.laid_internal_strconv_uint64pow10), ("unicode.properties", Rows.laid_unicode_properties), ("unicode.Letter", Rows.laid_unicode_Letter)] W ∧ handlesMet Tryd.prog [("errors.errorType", Rows.laid_errors_errorType)] W := h
  obtain ⟨h1, h2⟩ := h'
  have h3 := h1.tail.tail
  exact ⟨letters_of (props_of_head h3.tail) (letter_of_reads (laidMet.reads h1 (.tail _ (.tail _ (.tail _ (.tail _ (.head _))))))), err_of_handles h2, pow_of_head h3⟩

end Go.Proofs.YtfldcmdhneegmaaDoor

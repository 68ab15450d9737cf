import Derived.Test.YtfldcmdhneegmaaGreatDoorPgF

/-
  Goes: closed facts on the program.
-/
namespace Go.Proofs.YtfldcmdhneegmaaGreatDoor

set_option maxRecDepth 100000 in
theorem goes_wf : Rows.goesRow.wf (OpenSpec.ofChange Rows.goesSpec) = true := by kernel_rfl
set_option maxRecDepth 100000 in
theorem goes_par : Tryz.f8.params.all (Tryz.prog.readableRec ·) = true := by kernel_rfl
set_option maxRecDepth 100000 in
theorem goes_nt : namedTie Tryz.prog Rows.goesRow.named Rows.goesSpec.vars = true := by kernel_rfl
set_option maxRecDepth 100000 in
theorem goes_ip : (Rows.goesRow.inPlace == Tryz.prog.inPlace 8) = true := by kernel_rfl
set_option maxRecDepth 100000 in
theorem goes_uf : (Rows.goesRow.unfollowed == Tryz.prog.unfollowed 8) = true := by kernel_rfl
set_option maxRecDepth 100000 in
theorem goes_rc : (Rows.goesRow.recurses == Tryz.prog.recurses 8) = true := by kernel_rfl
set_option maxRecDepth 100000 in
theorem goes_nm : (Rows.goesRow.named == Tryz.prog.varsNamed 8) = true := by kernel_rfl

end Go.Proofs.YtfldcmdhneegmaaGreatDoor

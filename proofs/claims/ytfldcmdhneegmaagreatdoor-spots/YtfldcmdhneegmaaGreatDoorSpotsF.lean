import Derived.Test.YtfldcmdhneegmaaGreatDoorPgF

/-
  Spots: closed facts on the program.
-/
namespace Go.Proofs.YtfldcmdhneegmaaGreatDoor

set_option maxRecDepth 100000 in
theorem spots_wf : Rows.spotsRow.wf (OpenSpec.ofChange Rows.spotsSpec) = true := by kernel_rfl
set_option maxRecDepth 100000 in
theorem spots_par : Tryz.f3.params.all (Tryz.prog.readableRec ·) = true := by kernel_rfl
set_option maxRecDepth 100000 in
theorem spots_nt : namedTie Tryz.prog Rows.spotsRow.named Rows.spotsSpec.vars = true := by kernel_rfl
set_option maxRecDepth 100000 in
theorem spots_ip : (Rows.spotsRow.inPlace == Tryz.prog.inPlace 3) = true := by kernel_rfl
set_option maxRecDepth 100000 in
theorem spots_uf : (Rows.spotsRow.unfollowed == Tryz.prog.unfollowed 3) = true := by kernel_rfl
set_option maxRecDepth 100000 in
theorem spots_rc : (Rows.spotsRow.recurses == Tryz.prog.recurses 3) = true := by kernel_rfl
set_option maxRecDepth 100000 in
theorem spots_nm : (Rows.spotsRow.named == Tryz.prog.varsNamed 3) = true := by kernel_rfl

end Go.Proofs.YtfldcmdhneegmaaGreatDoor

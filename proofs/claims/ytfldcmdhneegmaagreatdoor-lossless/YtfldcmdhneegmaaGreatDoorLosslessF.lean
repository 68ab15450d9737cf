/-
  Lossless: closed facts on the program.
-/
import Derived.Test.YtfldcmdhneegmaaGreatDoorPgF
namespace Go.Proofs.YtfldcmdhneegmaaGreatDoor

set_option maxRecDepth 100000 in
theorem lossless_wf : Rows.losslessRow.wf (OpenSpec.ofChange Rows.losslessSpec) = true := by kernel_rfl
set_option maxRecDepth 100000 in
theorem lossless_par : Tryz.f9.params.all (Tryz.prog.readableRec ·) = true := by kernel_rfl
set_option maxRecDepth 100000 in
theorem lossless_nt : namedTie Tryz.prog Rows.losslessRow.named Rows.losslessSpec.vars = true := by kernel_rfl
set_option maxRecDepth 100000 in
theorem lossless_ip : (Rows.losslessRow.inPlace == Tryz.prog.inPlace 9) = true := by kernel_rfl
set_option maxRecDepth 100000 in
theorem lossless_uf : (Rows.losslessRow.unfollowed == Tryz.prog.unfollowed 9) = true := by kernel_rfl
set_option maxRecDepth 100000 in
theorem lossless_rc : (Rows.losslessRow.recurses == Tryz.prog.recurses 9) = true := by kernel_rfl
set_option maxRecDepth 100000 in
theorem lossless_nm : (Rows.losslessRow.named == Tryz.prog.varsNamed 9) = true := by kernel_rfl

end Go.Proofs.YtfldcmdhneegmaaGreatDoor

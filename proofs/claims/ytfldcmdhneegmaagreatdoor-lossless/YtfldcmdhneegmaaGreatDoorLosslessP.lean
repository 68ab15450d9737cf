/-
  THE LAW Lossless: the row, and the card.
-/
import Derived.Test.YtfldcmdhneegmaaGreatDoorLosslessW
import Derived.Test.YtfldcmdhneegmaaGreatDoorLosslessF
import Derived.Test.YtfldcmdhneegmaaGreatDoorCards
import Derived.Test.YtfldcmdhneegmaaGreatDoorTie
namespace Go.Proofs.YtfldcmdhneegmaaGreatDoor
open Go.ChangeShapes Go.WideShapes Go.ChangeAt Go.RowKit Go.Lib Go.Shelf
open Go.ChangeMaps (open_string shut_string)

theorem and_trueL {a b : Bool} (ha : a = true) (hb : b = true) : (a && b) = true := by rw [ha, hb]; rfl
set_option maxRecDepth 100000 in
theorem lossless_closed : joinedFacts Tryz.prog 9 Tryz.f9 Rows.losslessSpec Rows.losslessRow = true := by
  have h1 : (Rows.losslessRow.lifted == Tryz.prog.liftsFinal) = true := pg_lf
  have h2 : (Tryz.prog.make == some Rows.losslessRow.make) = true := pg_mk
  have h3 : (Rows.losslessRow.plainKeys == Tryz.prog.plainKeys) = true := pg_pk
  unfold joinedFacts
  repeat' first
    | with_reducible refine and_trueL ?_ ?_
    | with_reducible exact lossless_wf
    | with_reducible exact lossless_par
    | with_reducible exact lossless_nt
    | with_reducible exact lossless_ip
    | with_reducible exact lossless_uf
    | with_reducible exact lossless_rc
    | with_reducible exact lossless_nm
    | with_reducible exact pg_lo
    | with_reducible exact pg_mr
    | with_reducible exact pg_st
    | with_reducible exact pg_kn
    | with_reducible exact pg_sh
    | with_reducible exact pg_me
    | with_reducible exact h1
    | with_reducible exact h2
    | with_reducible exact h3
    | kernel_rfl
set_option maxRecDepth 100000 in
theorem lossless_said : Rows.LosslessSaid :=
  OpenClaim.holds_of_cond 9 Tryz.f9 rfl rfl rfl rfl rfl rfl rfl ⟨rfl, rfl, rfl, rfl, rfl⟩ rfl rfl rfl rfl rfl (by kernel_rfl) Tryz.func9 lossless_closed
    (of_decide_eq_true (by kernel_rfl)) (by unfold Func.isWrapper; first | (rw [if_pos (by decide +kernel)]; kernel_rfl) | (rw [if_neg (by decide +kernel)]; exact ⟨rfl, rfl⟩))
    (fun os started H enc _ F => by rw [OpenClaim.pre_eq_preRow]; exact lossless_lifted os started H enc F)

theorem lossless_plain (f : FuncId) (fn : Func) (hf : Tryz.pinned.checked.prog.funcNamed "spotter/spotterkeep.Lossless" = some f) (hfn : Tryz.pinned.checked.prog.funcs[f]? = some fn) :
    true = Tryz.pinned.checked.prog.looks [] ∧ ∀ (j : Nat) t, fn.params[j]? = some t → Tryz.pinned.checked.prog.wantsStandIn t = false := by
  obtain rfl : f = 9 := Option.some.inj ((show Tryz.prog.funcNamed "spotter/spotterkeep.Lossless" = some 9 by kernel_rfl).symm.trans hf) |>.symm
  obtain rfl : fn = Tryz.f9 := (Option.some.inj (Tryz.func9.symm.trans hfn)).symm
  refine ⟨by kernel_rfl, fun j t ht => ?_⟩
  rw [Tryz.params9] at ht
  have hm : t = 53 := by
    have := Array.mem_of_getElem? ht
    simpa using this
  subst hm
  exact (show Tryz.prog.wantsStandIn 53 = false by kernel_rfl)

theorem lossless_card : Rows.LosslessCardSaid :=
  tied_goes .later _ _ (true, _) true lossless_said (by kernel_rfl) lossless_row_tie rfl ⟨rfl, rfl⟩ (by kernel_rfl) rfl lossless_plain (by kernel_rfl)

end Go.Proofs.YtfldcmdhneegmaaGreatDoor

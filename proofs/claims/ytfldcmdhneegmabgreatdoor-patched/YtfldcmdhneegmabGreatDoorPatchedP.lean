import Derived.Test.YtfldcmdhneegmabGreatDoorU3
import Derived.Test.YtfldcmdhneegmabGreatDoorU4
import Derived.Test.YtfldcmdhneegmabGreatDoorCards
import Derived.Test.YtfldcmdhneegmabGreatDoorTie

/-
  THE LAW Patched: the row, and the card.
-/
namespace Go.Proofs.YtfldcmdhneegmabGreatDoor
open Go.ChangeShapes Go.WideShapes Go.ChangeAt Go.RowKit Go.Lib Go.Shelf
open Go.ChangeMaps (open_string shut_string)

theorem and_trueP {a b : Bool} (ha : a = true) (hb : b = true) : (a && b) = true := by rw [ha, hb]; rfl
set_option maxRecDepth 100000 in
theorem patched_closed : joinedFacts Tryz.prog 4 Tryz.f4 Rows.patchedSpec Rows.patchedRow = true := by
  have h1 : (Rows.patchedRow.lifted == Tryz.prog.liftsFinal) = true := pg_lf
  have h2 : (Tryz.prog.make == some Rows.patchedRow.make) = true := pg_mk
  have h3 : (Rows.patchedRow.plainKeys == Tryz.prog.plainKeys) = true := pg_pk
  unfold joinedFacts
  repeat' first
    | with_reducible refine and_trueP ?_ ?_
    | with_reducible exact patched_wf
    | with_reducible exact patched_par
    | with_reducible exact patched_nt
    | with_reducible exact patched_ip
    | with_reducible exact patched_uf
    | with_reducible exact patched_rc
    | with_reducible exact patched_nm
    | with_reducible exact pg_lo
    | with_reducible exact pg_mr
    | with_reducible exact pg_st
    | with_reducible exact pg_kn
    | with_reducible exact pg_sh
    | with_reducible exact pg_me
    | with_reducible exact h1
    | with_reducible exact h2
    | with_reducible exact h3
    | kernel_rfl
set_option maxRecDepth 100000 in
theorem patched_said : Rows.PatchedSaid :=
  OpenClaim.holds_of_cond 4 Tryz.f4 rfl rfl rfl rfl rfl rfl rfl ⟨rfl, rfl, rfl, rfl, rfl⟩ rfl rfl rfl rfl rfl (by kernel_rfl) Tryz.func4 patched_closed
    (of_decide_eq_true (by kernel_rfl)) (by unfold Func.isWrapper; first | (rw [if_pos (by decide +kernel)]; kernel_rfl) | (rw [if_neg (by decide +kernel)]; exact ⟨rfl, rfl⟩))
    (fun os started H enc _ F => by rw [OpenClaim.pre_eq_preRow]; exact patched_lifted os started H enc F)

theorem patched_plain (f : FuncId) (fn : Func) (hf : Tryz.pinned.checked.prog.funcNamed "spotter/spotterkeep.Patched" = some f) (hfn : Tryz.pinned.checked.prog.funcs[f]? = some fn) :
    true = Tryz.pinned.checked.prog.looks [] ∧ ∀ (j : Nat) t, fn.params[j]? = some t → Tryz.pinned.checked.prog.wantsStandIn t = false := by
  obtain rfl : f = 4 := Option.some.inj ((show Tryz.prog.funcNamed "spotter/spotterkeep.Patched" = some 4 by kernel_rfl).symm.trans hf) |>.symm
  obtain rfl : fn = Tryz.f4 := (Option.some.inj (Tryz.func4.symm.trans hfn)).symm
  refine ⟨by kernel_rfl, fun j t ht => ?_⟩
  rw [Tryz.params4] at ht
  have hm : t = 22 := by
    have := Array.mem_of_getElem? ht
    simpa using this
  subst hm
  exact (show Tryz.prog.wantsStandIn 22 = false by kernel_rfl)

theorem patched_card : Rows.PatchedCardSaid :=
  tied_goes .later _ _ (true, _) true patched_said (by kernel_rfl) patched_row_tie rfl ⟨rfl, rfl⟩ (by kernel_rfl) rfl patched_plain (by kernel_rfl)

end Go.Proofs.YtfldcmdhneegmabGreatDoor

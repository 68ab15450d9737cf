import Derived.Test.YtfldcmdhneegmaaGreatDoorGoesW
import Derived.Test.YtfldcmdhneegmaaGreatDoorGoesF
import Derived.Test.YtfldcmdhneegmaaGreatDoorCards
import Derived.Test.YtfldcmdhneegmaaGreatDoorTie

/-
  THE LAW Goes: the row, and the card.
-/
namespace Go.Proofs.YtfldcmdhneegmaaGreatDoor
open Go.ChangeShapes Go.WideShapes Go.ChangeAt Go.RowKit Go.Lib Go.Shelf
open Go.ChangeMaps (open_string shut_string)

theorem and_trueG {a b : Bool} (ha : a = true) (hb : b = true) : (a && b) = true := by rw [ha, hb]; rfl
set_option maxRecDepth 100000 in
theorem goes_closed : joinedFacts Tryz.prog 8 Tryz.f8 Rows.goesSpec Rows.goesRow = true := by
  have h1 : (Rows.goesRow.lifted == Tryz.prog.liftsFinal) = true := pg_lf
  have h2 : (Tryz.prog.make == some Rows.goesRow.make) = true := pg_mk
  have h3 : (Rows.goesRow.plainKeys == Tryz.prog.plainKeys) = true := pg_pk
  unfold joinedFacts
  repeat' first
    | with_reducible refine and_trueG ?_ ?_
    | with_reducible exact goes_wf
    | with_reducible exact goes_par
    | with_reducible exact goes_nt
    | with_reducible exact goes_ip
    | with_reducible exact goes_uf
    | with_reducible exact goes_rc
    | with_reducible exact goes_nm
    | with_reducible exact pg_lo
    | with_reducible exact pg_mr
    | with_reducible exact pg_st
    | with_reducible exact pg_kn
    | with_reducible exact pg_sh
    | with_reducible exact pg_me
    | with_reducible exact h1
    | with_reducible exact h2
    | with_reducible exact h3
    | kernel_rfl
set_option maxRecDepth 100000 in
theorem goes_said : Rows.GoesSaid :=
  OpenClaim.holds_of_cond 8 Tryz.f8 rfl rfl rfl rfl rfl rfl rfl ⟨rfl, rfl, rfl, rfl, rfl⟩ rfl rfl rfl rfl rfl (by kernel_rfl) Tryz.func8 goes_closed
    (of_decide_eq_true (by kernel_rfl)) (by unfold Func.isWrapper; first | (rw [if_pos (by decide +kernel)]; kernel_rfl) | (rw [if_neg (by decide +kernel)]; exact ⟨rfl, rfl⟩))
    (fun os started H enc _ F => by rw [OpenClaim.pre_eq_preRow]; exact goes_lifted os started H enc F)

theorem goes_plain (f : FuncId) (fn : Func) (hf : Tryz.pinned.checked.prog.funcNamed "spotter/spotterkeep.Goes" = some f) (hfn : Tryz.pinned.checked.prog.funcs[f]? = some fn) :
    true = Tryz.pinned.checked.prog.looks [] ∧ ∀ (j : Nat) t, fn.params[j]? = some t → Tryz.pinned.checked.prog.wantsStandIn t = false := by
  obtain rfl : f = 8 := Option.some.inj ((show Tryz.prog.funcNamed "spotter/spotterkeep.Goes" = some 8 by kernel_rfl).symm.trans hf) |>.symm
  obtain rfl : fn = Tryz.f8 := (Option.some.inj (Tryz.func8.symm.trans hfn)).symm
  refine ⟨by kernel_rfl, fun j t ht => ?_⟩
  rw [Tryz.params8] at ht
  have hm : t = 2 ∨ t = 53 := by
    have := Array.mem_of_getElem? ht
    simpa using this
  rcases hm with rfl | rfl
  · exact (show Tryz.prog.wantsStandIn 2 = false by kernel_rfl)
  · exact (show Tryz.prog.wantsStandIn 53 = false by kernel_rfl)

theorem goes_card : Rows.GoesCardSaid :=
  tied_goes .later _ _ (true, _) true goes_said (by kernel_rfl) goes_row_tie rfl ⟨rfl, rfl⟩ (by kernel_rfl) rfl goes_plain (by kernel_rfl)

end Go.Proofs.YtfldcmdhneegmaaGreatDoor

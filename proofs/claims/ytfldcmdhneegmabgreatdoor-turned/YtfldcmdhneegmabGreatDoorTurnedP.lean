import Derived.Test.YtfldcmdhneegmabGreatDoorY3
import Derived.Test.YtfldcmdhneegmabGreatDoorZ57
import Derived.Test.YtfldcmdhneegmabGreatDoorCards
import Derived.Test.YtfldcmdhneegmabGreatDoorTie

/-
  THE LAW Turned: the row, and the card.
-/
namespace Go.Proofs.YtfldcmdhneegmabGreatDoor
open Go.ChangeShapes Go.WideShapes Go.ChangeAt Go.RowKit Go.Lib Go.Shelf
open Go.ChangeMaps (open_string shut_string)

theorem and_trueT {a b : Bool} (ha : a = true) (hb : b = true) : (a && b) = true := by rw [ha, hb]; rfl
set_option maxRecDepth 100000 in
theorem turned_closed : joinedFacts Tryz.prog 3 Tryz.f3 Rows.turnedSpec Rows.turnedRow = true := by
  have h1 : (Rows.turnedRow.lifted == Tryz.prog.liftsFinal) = true := pg_lf
  have h2 : (Tryz.prog.make == some Rows.turnedRow.make) = true := pg_mk
  have h3 : (Rows.turnedRow.plainKeys == Tryz.prog.plainKeys) = true := pg_pk
  unfold joinedFacts
  repeat' first
    | with_reducible refine and_trueT ?_ ?_
    | with_reducible exact turned_wf
    | with_reducible exact turned_par
    | with_reducible exact turned_nt
    | with_reducible exact turned_ip
    | with_reducible exact turned_uf
    | with_reducible exact turned_rc
    | with_reducible exact turned_nm
    | with_reducible exact pg_lo
    | with_reducible exact pg_mr
    | with_reducible exact pg_st
    | with_reducible exact pg_kn
    | with_reducible exact pg_sh
    | with_reducible exact pg_me
    | with_reducible exact h1
    | with_reducible exact h2
    | with_reducible exact h3
    | kernel_rfl
set_option maxRecDepth 100000 in
theorem turned_said : Rows.TurnedSaid :=
  OpenClaim.holds_of_cond 3 Tryz.f3 rfl rfl rfl rfl rfl rfl rfl ⟨rfl, rfl, rfl, rfl, rfl⟩ rfl rfl rfl rfl rfl (by kernel_rfl) Tryz.func3 turned_closed
    (of_decide_eq_true (by kernel_rfl)) (by unfold Func.isWrapper; first | (rw [if_pos (by decide +kernel)]; kernel_rfl) | (rw [if_neg (by decide +kernel)]; exact ⟨rfl, rfl⟩))
    (fun os started H enc _ F => by rw [OpenClaim.pre_eq_preRow]; exact turned_lifted os started H enc F)

theorem turned_plain (f : FuncId) (fn : Func) (hf : Tryz.pinned.checked.prog.funcNamed "spotter/spotterkeep.Turned" = some f) (hfn : Tryz.pinned.checked.prog.funcs[f]? = some fn) :
    true = Tryz.pinned.checked.prog.looks [] ∧ ∀ (j : Nat) t, fn.params[j]? = some t → Tryz.pinned.checked.prog.wantsStandIn t = false := by
  obtain rfl : f = 3 := Option.some.inj ((show Tryz.prog.funcNamed "spotter/spotterkeep.Turned" = some 3 by kernel_rfl).symm.trans hf) |>.symm
  obtain rfl : fn = Tryz.f3 := (Option.some.inj (Tryz.func3.symm.trans hfn)).symm
  refine ⟨by kernel_rfl, fun j t ht => ?_⟩
  rw [Tryz.params3] at ht
  have hm : t = 22 ∨ t = 3 := by
    have := Array.mem_of_getElem? ht
    simpa using this
  rcases hm with rfl | rfl
  · exact (show Tryz.prog.wantsStandIn 22 = false by kernel_rfl)
  · exact (show Tryz.prog.wantsStandIn 3 = false by kernel_rfl)

theorem turned_card : Rows.TurnedCardSaid :=
  tied_goes .later _ _ (true, _) true turned_said (by kernel_rfl) turned_row_tie rfl ⟨rfl, rfl⟩ (by kernel_rfl) rfl turned_plain (by kernel_rfl)

end Go.Proofs.YtfldcmdhneegmabGreatDoor

import Derived.Test.YtfldcmdhneegmaaGreatDoorY49
import Derived.Test.YtfldcmdhneegmaaGreatDoorY50
import Derived.Test.YtfldcmdhneegmaaGreatDoorCards
import Derived.Test.YtfldcmdhneegmaaGreatDoorTie
set_option maxHeartbeats 4000000
set_option maxRecDepth 1000000
namespace Go.Proofs.YtfldcmdhneegmaaGreatDoor
open Go.ChangeShapes Go.WideShapes Go.ChangeAt Go.RowKit Go.Lib Go.Shelf
open Go.ChangeMaps (open_string shut_string)
theorem and_true {a b:Bool}(ha:a=true)(hb:b=true):(a && b)=true:=by rw[ha,hb];rfl
theorem saves_closed:joinedFacts Tryz.prog 4 Tryz.f4 Rows.savesSpec Rows.savesRow=true:=by
 have h1:(Rows.savesRow.lifted == Tryz.prog.liftsFinal)=true:=pg_lf
 have h2:(Tryz.prog.make == some Rows.savesRow.make)=true:=pg_mk
 have h3:(Rows.savesRow.plainKeys == Tryz.prog.plainKeys)=true:=pg_pk
 unfold joinedFacts
 repeat' first
  | with_reducible refine and_true ?_ ?_
  | with_reducible exact saves_wf
  | with_reducible exact saves_par
  | with_reducible exact saves_nt
  | with_reducible exact saves_ip
  | with_reducible exact saves_uf
  | with_reducible exact saves_rc
  | with_reducible exact saves_nm
  | with_reducible exact pg_lo
  | with_reducible exact pg_mr
  | with_reducible exact pg_st
  | with_reducible exact pg_kn
  | with_reducible exact pg_sh
  | with_reducible exact pg_me
  | with_reducible exact h1
  | with_reducible exact h2
  | with_reducible exact h3
  | kernel_rfl
theorem saves_said:Rows.SavesSaid:=
 OpenClaim.holds_of_cond 4 Tryz.f4 rfl rfl rfl rfl rfl rfl rfl ⟨rfl,rfl,rfl,rfl,rfl⟩ rfl rfl rfl rfl rfl (by kernel_rfl) Tryz.func4 saves_closed
  (of_decide_eq_true (by kernel_rfl)) (by unfold Func.isWrapper;first | (rw[if_pos (by decide +kernel)];kernel_rfl) | (rw[if_neg (by decide +kernel)];exact⟨rfl,rfl⟩))
  (fun os started H enc _ F=>by rw[OpenClaim.pre_eq_preRow];exact saves_lifted os started H enc F)
theorem saves_plain (f:FuncId)(fn:Func)(hf:Tryz.pinned.checked.prog.funcNamed "spotter/spotterlaw.Saves" = some f)(hfn:Tryz.pinned.checked.prog.funcs[f]?=some fn) :
  true=Tryz.pinned.checked.prog.looks []∧∀(j:Nat) t,fn.params[j]?=some t→Tryz.pinned.checked.prog.wantsStandIn t=false:=by
 obtain rfl:f=4:=Option.some.inj ((show Tryz.prog.funcNamed "spotter/spotterlaw.Saves" = some 4 by kernel_rfl).symm.trans hf) |>.symm
 obtain rfl:fn=Tryz.f4:=(Option.some.inj (Tryz.func4.symm.trans hfn)).symm
 refine⟨by kernel_rfl,fun j t ht=>?_⟩
 rw[Tryz.params4] at ht
 have hm:t=9∨t=22:=by
  have:=Array.mem_of_getElem? ht
  simpa using this
 rcases hm with rfl | rfl
 ·exact (show Tryz.prog.wantsStandIn 9=false by kernel_rfl)
 ·exact (show Tryz.prog.wantsStandIn 22=false by kernel_rfl)
theorem saves_card:Rows.SavesCardSaid:=
 tied_goes .later _ _ (true,_) true saves_said (by kernel_rfl) saves_row_tie rfl ⟨rfl,rfl⟩ (by kernel_rfl) rfl saves_plain (by kernel_rfl)
end Go.Proofs.YtfldcmdhneegmaaGreatDoor

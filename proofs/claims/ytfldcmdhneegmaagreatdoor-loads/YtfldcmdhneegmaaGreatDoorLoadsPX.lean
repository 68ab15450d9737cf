import Derived.Test.YtfldcmdhneegmaaGreatDoorX49
import Derived.Test.YtfldcmdhneegmaaGreatDoorX50
import Derived.Test.YtfldcmdhneegmaaGreatDoorCards
import Derived.Test.YtfldcmdhneegmaaGreatDoorTie
set_option maxHeartbeats 4000000
set_option maxRecDepth 1000000
namespace Go.Proofs.YtfldcmdhneegmaaGreatDoor
open Go.ChangeShapes Go.WideShapes Go.ChangeAt Go.RowKit Go.Lib Go.Shelf
open Go.ChangeMaps (open_string shut_string)
theorem and_true {a b:Bool}(ha:a=true)(hb:b=true):(a && b)=true:=by rw[ha,hb];rfl
theorem loads_closed:joinedFacts Tryz.prog 5 Tryz.f5 Rows.loadsSpec Rows.loadsRow=true:=by
 have h1:(Rows.loadsRow.lifted == Tryz.prog.liftsFinal)=true:=pg_lf
 have h2:(Tryz.prog.make == some Rows.loadsRow.make)=true:=pg_mk
 have h3:(Rows.loadsRow.plainKeys == Tryz.prog.plainKeys)=true:=pg_pk
 unfold joinedFacts
 repeat' first
  | with_reducible refine and_true ?_ ?_
  | with_reducible exact loads_wf
  | with_reducible exact loads_par
  | with_reducible exact loads_nt
  | with_reducible exact loads_ip
  | with_reducible exact loads_uf
  | with_reducible exact loads_rc
  | with_reducible exact loads_nm
  | with_reducible exact pg_lo
  | with_reducible exact pg_mr
  | with_reducible exact pg_st
  | with_reducible exact pg_kn
  | with_reducible exact pg_sh
  | with_reducible exact pg_me
  | with_reducible exact h1
  | with_reducible exact h2
  | with_reducible exact h3
  | kernel_rfl
theorem loads_said:Rows.LoadsSaid:=
 OpenClaim.holds_of_cond 5 Tryz.f5 rfl rfl rfl rfl rfl rfl rfl ⟨rfl,rfl,rfl,rfl,rfl⟩ rfl rfl rfl rfl rfl (by kernel_rfl) Tryz.func5 loads_closed
  (of_decide_eq_true (by kernel_rfl)) (by unfold Func.isWrapper;first | (rw[if_pos (by decide +kernel)];kernel_rfl) | (rw[if_neg (by decide +kernel)];exact⟨rfl,rfl⟩))
  (fun os started H enc _ F=>by rw[OpenClaim.pre_eq_preRow];exact loads_lifted os started H enc F)
theorem loads_plain (f:FuncId)(fn:Func)(hf:Tryz.pinned.checked.prog.funcNamed "spotter/spotterlaw.Loads" = some f)(hfn:Tryz.pinned.checked.prog.funcs[f]?=some fn) :
  true=Tryz.pinned.checked.prog.looks []∧∀(j:Nat) t,fn.params[j]?=some t→Tryz.pinned.checked.prog.wantsStandIn t=false:=by
 obtain rfl:f=5:=Option.some.inj ((show Tryz.prog.funcNamed "spotter/spotterlaw.Loads" = some 5 by kernel_rfl).symm.trans hf) |>.symm
 obtain rfl:fn=Tryz.f5:=(Option.some.inj (Tryz.func5.symm.trans hfn)).symm
 refine⟨by kernel_rfl,fun j t ht=>?_⟩
 rw[Tryz.params5] at ht
 obtain rfl:t=9:=by simpa using Array.mem_of_getElem? ht
 exact (show Tryz.prog.wantsStandIn 9=false by kernel_rfl)
theorem loads_card:Rows.LoadsCardSaid:=
 tied_goes .later _ _ (true,_) true loads_said (by kernel_rfl) loads_row_tie rfl ⟨rfl,rfl⟩ (by kernel_rfl) rfl loads_plain (by kernel_rfl)
end Go.Proofs.YtfldcmdhneegmaaGreatDoor

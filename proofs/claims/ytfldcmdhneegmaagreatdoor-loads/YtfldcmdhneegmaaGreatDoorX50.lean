import Derived.Test.YtfldcmdhneegmaaGreatDoorRows
import Derived.JoinedCond
import Derived.SevenTiedAt
set_option maxHeartbeats 4000000
set_option maxRecDepth 1000000
namespace Go.Proofs.YtfldcmdhneegmaaGreatDoor
theorem pg_lo:laidOutB Tryz.prog=true:=by kernel_rfl
theorem pg_mr:mapsRowed Tryz.prog=true:=by kernel_rfl
theorem pg_st:(Tryz.prog.stops == [])=true:=by kernel_rfl
theorem pg_kn:(Tryz.prog.stopKnobs == [])=true:=by kernel_rfl
theorem pg_sh:Tryz.prog.stopsHeard=true:=by kernel_rfl
theorem pg_me:Tryz.prog.mayEnter=true:=by kernel_rfl
theorem pg_lf:(false == Tryz.prog.liftsFinal)=true:=by kernel_rfl
theorem pg_mk:(Tryz.prog.make == some Rows.spotsRow.make)=true:=by kernel_rfl
theorem pg_pk:(false == Tryz.prog.plainKeys)=true:=by kernel_rfl
theorem tied_goes (Lk:Looks){p:Pinned}{s:OpenSpec}{c:OpenClaim}(kinds:List LaidKind)(tests:Bool)(har:Bool × String)(lk:Bool)
  (hc:c.holds p s) (hw:c.wfByText s=true) (htie:c.laidByTextAt Lk p kinds tests)
  (hst:c.start=.entering) (hnb:c.noBlocks=false∧c.again=false) (hm:p.checked.prog.mainIs=some (har.1,har.2.toList)) (hn:(!har.1 && har.2.isEmpty && !lk)=false)
  (hl:∀f fn,p.checked.prog.funcNamed c.func=some f→p.checked.prog.funcs[f]?=some fn→lk=p.checked.prog.looks []∧∀(j:Nat) t,fn.params[j]?=some t→p.checked.prog.wantsStandIn t=false)
  (hg:true=c.goesBy p.checked.prog) :
  Claim7.holds p (.plain s) { stood:={ row:=c,standIns:=[],harness:=har,looks:=lk },kinds:=[],alts:=[],goes:=true,laidByText:=true,laidKinds:=kinds,laidTests:=tests,laidLooks:=Lk }:=by
 have h6:∀r:OpenClaim,Claim7.isSixth { stood:={ row:=r,standIns:=[],harness:=har,looks:=lk },kinds:=[] }=false:=fun r=>by simpa [Claim7.isSixth] using hn
 exact⟨Claim7.tied_new_at Lk kinds tests (Claim7.new_of_sixth hc har lk hst hnb hm (h6 c) hl) hw,fun D hD=>(by cases hD),htie,(fun h=>by cases h),hg⟩
theorem loads_wf:Rows.loadsRow.wf (OpenSpec.ofChange Rows.loadsSpec)=true:=by kernel_rfl
theorem loads_par:Tryz.f5.params.all (Tryz.prog.readableRec ·)=true:=by kernel_rfl
theorem loads_nt:namedTie Tryz.prog Rows.loadsRow.named Rows.loadsSpec.vars=true:=by kernel_rfl
theorem loads_ip:(Rows.loadsRow.inPlace == Tryz.prog.inPlace 5)=true:=by kernel_rfl
theorem loads_uf:(Rows.loadsRow.unfollowed == Tryz.prog.unfollowed 5)=true:=by kernel_rfl
theorem loads_rc:(Rows.loadsRow.recurses == Tryz.prog.recurses 5)=true:=by kernel_rfl
theorem loads_nm:(Rows.loadsRow.named == Tryz.prog.varsNamed 5)=true:=by kernel_rfl
end Go.Proofs.YtfldcmdhneegmaaGreatDoor

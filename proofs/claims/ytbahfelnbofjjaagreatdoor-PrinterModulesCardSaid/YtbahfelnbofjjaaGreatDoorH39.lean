/-
  PrinterModules: its card.
-/
import Derived.Test.YtbahfelnbofjjaaGreatDoorH37
import Derived.Test.YtbahfelnbofjjaaGreatDoorH38
set_option maxRecDepth 100000
set_option maxHeartbeats 16000000
namespace Go.Proofs.YtbahfelnbofjjaaGreatDoor
namespace printerModules
open Go.ChangeShapes Go.WideShapes Go.ChangeAt Go.RowKit Go.Joins ch
open Go.ChangeMaps (open_string shut_string)
theorem proved:Rows.PrinterModulesCardSaid :=
 Claim7.holds_tied_plain_at .later [] [.data,.data,.data,.sentinel,.sentinel,.data,.data,.data,.data,.data] true _ true
  over (fun _ h=>by cases h) wf (fun _ h=>by cases h) printerModules_row_tie rfl ⟨rfl,rfl⟩ main rfl
  (fun f fn hf hfn=>by
   obtain rfl:f=6:=Option.some.inj ((show Tryz.prog.funcNamed "asof/asoflaw11.PrinterModules" = some 6 by kernel_rfl).symm.trans hf) |>.symm
   obtain rfl:fn=Tryz.f6:=(Option.some.inj (Tryz.func6.symm.trans hfn)).symm
   exact ⟨seen,fun j t ht=>by
    rw [Tryz.params6] at ht
    have hm:t ∈ [43]:=by simpa using Array.mem_of_getElem? ht
    have hall:([43].all fun u => !Tryz.prog.wantsStandIn u)=true:=by kernel_rfl
    exact (show Tryz.prog.wantsStandIn t=false by simpa using List.all_eq_true.1 hall t hm)⟩)
  goes
#print axioms proved
end printerModules
end Go.Proofs.YtbahfelnbofjjaaGreatDoor

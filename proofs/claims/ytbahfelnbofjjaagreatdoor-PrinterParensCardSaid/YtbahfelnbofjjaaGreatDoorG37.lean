/-
  PrinterParens: its card.
-/
import Derived.Test.YtbahfelnbofjjaaGreatDoorG35
import Derived.Test.YtbahfelnbofjjaaGreatDoorG36
set_option maxRecDepth 100000
set_option maxHeartbeats 16000000
namespace Go.Proofs.YtbahfelnbofjjaaGreatDoor
namespace printerParens
open Go.ChangeShapes Go.WideShapes Go.ChangeAt Go.RowKit Go.Joins ch
open Go.ChangeMaps (open_string shut_string)
theorem proved:Rows.PrinterParensCardSaid :=
 Claim7.holds_tied_plain_at .later [] [.data,.data,.data,.sentinel,.sentinel,.data,.data,.data,.data,.data] true _ true
  over (fun _ h=>by cases h) wf (fun _ h=>by cases h) printerParens_row_tie rfl ⟨rfl,rfl⟩ main rfl
  (fun f fn hf hfn=>by
   obtain rfl:f=8:=Option.some.inj ((show Tryz.prog.funcNamed "asof/asoflaw11.PrinterParens" = some 8 by kernel_rfl).symm.trans hf) |>.symm
   obtain rfl:fn=Tryz.f8:=(Option.some.inj (Tryz.func8.symm.trans hfn)).symm
   exact ⟨seen,fun j t ht=>by
    rw [Tryz.params8] at ht
    have hm:t ∈ [29,3]:=by simpa using Array.mem_of_getElem? ht
    have hall:([29,3].all fun u => !Tryz.prog.wantsStandIn u)=true:=by kernel_rfl
    exact (show Tryz.prog.wantsStandIn t=false by simpa using List.all_eq_true.1 hall t hm)⟩)
  goes
#print axioms proved
end printerParens
end Go.Proofs.YtbahfelnbofjjaaGreatDoor

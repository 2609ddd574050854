/-
  PrinterTokens: its card.
-/
import Derived.Test.YtbahfelnbofjjaaGreatDoorY35
import Derived.Test.YtbahfelnbofjjaaGreatDoorY36
set_option maxRecDepth 100000
set_option maxHeartbeats 16000000
namespace Go.Proofs.YtbahfelnbofjjaaGreatDoor
namespace printerTokens
open Go.ChangeShapes Go.WideShapes Go.ChangeAt Go.RowKit Go.Joins ch
open Go.ChangeMaps (open_string shut_string)
theorem proved:Rows.PrinterTokensCardSaid :=
 Claim7.holds_tied_plain_at .later [] [.data,.data,.data,.sentinel,.sentinel,.data,.data,.data,.data,.data] true _ true
  over (fun _ h=>by cases h) wf (fun _ h=>by cases h) printerTokens_row_tie rfl ⟨rfl,rfl⟩ main rfl
  (fun f fn hf hfn=>by
   obtain rfl:f=7:=Option.some.inj ((show Tryz.prog.funcNamed "asof/asoflaw11.PrinterTokens" = some 7 by kernel_rfl).symm.trans hf) |>.symm
   obtain rfl:fn=Tryz.f7:=(Option.some.inj (Tryz.func7.symm.trans hfn)).symm
   exact ⟨seen,fun j t ht=>by
    rw [Tryz.params7] at ht
    have hm:t ∈ [29]:=by simpa using Array.mem_of_getElem? ht
    have hall:([29].all fun u => !Tryz.prog.wantsStandIn u)=true:=by kernel_rfl
    exact (show Tryz.prog.wantsStandIn t=false by simpa using List.all_eq_true.1 hall t hm)⟩)
  goes
#print axioms proved
end printerTokens
end Go.Proofs.YtbahfelnbofjjaaGreatDoor

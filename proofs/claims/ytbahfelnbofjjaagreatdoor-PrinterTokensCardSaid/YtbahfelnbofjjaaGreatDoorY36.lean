/-
  PrinterTokens: facts of its card.
-/
import Derived.Test.YtbahfelnbofjjaaGreatDoorY17
set_option maxRecDepth 100000
set_option maxHeartbeats 16000000
namespace Go.Proofs.YtbahfelnbofjjaaGreatDoor
namespace printerTokens
open Go.ChangeShapes Go.WideShapes Go.ChangeAt Go.RowKit Go.Joins ch
open Go.ChangeMaps (open_string shut_string)
theorem wf:Rows.printerTokensRow.wfByText (OpenSpec.ofChange Rows.printerTokensSpec)=true:=by kernel_rfl
theorem main:Tryz.pinned.checked.prog.mainIs=some (Rows.printerTokensCard.stood.harness.1,Rows.printerTokensCard.stood.harness.2.toList):=by kernel_rfl
theorem seen:Rows.printerTokensCard.stood.looks=Tryz.pinned.checked.prog.looks []:=by kernel_rfl
theorem goes:false=Rows.printerTokensRow.goesBy Tryz.pinned.checked.prog:=by kernel_rfl
end printerTokens
end Go.Proofs.YtbahfelnbofjjaaGreatDoor

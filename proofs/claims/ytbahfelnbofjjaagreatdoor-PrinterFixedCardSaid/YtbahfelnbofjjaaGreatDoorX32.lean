/-
  PrinterFixed: facts of its card.
-/
import Derived.Test.YtbahfelnbofjjaaGreatDoorX16
set_option maxRecDepth 100000
set_option maxHeartbeats 16000000
namespace Go.Proofs.YtbahfelnbofjjaaGreatDoor
namespace printerFixed
open Go.ChangeShapes Go.WideShapes Go.ChangeAt Go.RowKit Go.Joins ch
open Go.ChangeMaps (open_string shut_string)
theorem wf:Rows.printerFixedRow.wfByText (OpenSpec.ofChange Rows.printerFixedSpec)=true:=by kernel_rfl
theorem main:Tryz.pinned.checked.prog.mainIs=some (Rows.printerFixedCard.stood.harness.1,Rows.printerFixedCard.stood.harness.2.toList):=by kernel_rfl
theorem seen:Rows.printerFixedCard.stood.looks=Tryz.pinned.checked.prog.looks []:=by kernel_rfl
theorem goes:false=Rows.printerFixedRow.goesBy Tryz.pinned.checked.prog:=by kernel_rfl
end printerFixed
end Go.Proofs.YtbahfelnbofjjaaGreatDoor

/- PrinterModules. -/
import Derived.Test.YtbahfelnbofjjaaGreatDoorH16
set_option maxRecDepth 100000
set_option maxHeartbeats 16000000
namespace Go.Proofs.YtbahfelnbofjjaaGreatDoor
namespace printerModules
open Go.ChangeShapes Go.WideShapes Go.ChangeAt Go.RowKit Go.Joins ch
open Go.ChangeMaps (open_string shut_string)
theorem wf:Rows.printerModulesRow.wfByText (OpenSpec.ofChange Rows.printerModulesSpec)=true:=by kernel_rfl
theorem main:Tryz.pinned.checked.prog.mainIs=some (Rows.printerModulesCard.stood.harness.1,Rows.printerModulesCard.stood.harness.2.toList):=by kernel_rfl
theorem seen:Rows.printerModulesCard.stood.looks=Tryz.pinned.checked.prog.looks []:=by kernel_rfl
theorem goes:false=Rows.printerModulesRow.goesBy Tryz.pinned.checked.prog:=by kernel_rfl
end printerModules
end Go.Proofs.YtbahfelnbofjjaaGreatDoor

/-
  PrinterParens: facts of its card.
-/
import Derived.Test.YtbahfelnbofjjaaGreatDoorG16
set_option maxRecDepth 100000
set_option maxHeartbeats 16000000
namespace Go.Proofs.YtbahfelnbofjjaaGreatDoor
namespace printerParens
open Go.ChangeShapes Go.WideShapes Go.ChangeAt Go.RowKit Go.Joins ch
open Go.ChangeMaps (open_string shut_string)
theorem wf:Rows.printerParensRow.wfByText (OpenSpec.ofChange Rows.printerParensSpec)=true:=by kernel_rfl
theorem main:Tryz.pinned.checked.prog.mainIs=some (Rows.printerParensCard.stood.harness.1,Rows.printerParensCard.stood.harness.2.toList):=by kernel_rfl
theorem seen:Rows.printerParensCard.stood.looks=Tryz.pinned.checked.prog.looks []:=by kernel_rfl
theorem goes:false=Rows.printerParensRow.goesBy Tryz.pinned.checked.prog:=by kernel_rfl
end printerParens
end Go.Proofs.YtbahfelnbofjjaaGreatDoor

/-
  PrinterFixed: closed facts.
-/
import Derived.JoinedOf
import Derived.Test.YtbahfelnbofjjaaGreatDoorX16
set_option maxRecDepth 100000
set_option maxHeartbeats 16000000
namespace Go.Proofs.YtbahfelnbofjjaaGreatDoor
namespace printerFixed
open Go.ChangeShapes Go.WideShapes Go.ChangeAt Go.RowKit Go.Joins ch
theorem closed:joinedFacts Tryz.pinned.checked.prog 9 Tryz.f9 Rows.printerFixedSpec Rows.printerFixedRow=true:=by kernel_rfl
end printerFixed
end Go.Proofs.YtbahfelnbofjjaaGreatDoor

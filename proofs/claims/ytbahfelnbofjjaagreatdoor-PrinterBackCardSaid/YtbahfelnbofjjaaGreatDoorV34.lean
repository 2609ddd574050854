/-
  PrinterBack: closed facts.
-/
import Derived.JoinedOf
import Derived.Test.YtbahfelnbofjjaaGreatDoorV17
set_option maxRecDepth 100000
set_option maxHeartbeats 16000000
namespace Go.Proofs.YtbahfelnbofjjaaGreatDoor
namespace printerBack
open Go.ChangeShapes Go.WideShapes Go.ChangeAt Go.RowKit Go.Joins ch
theorem closed:joinedFacts Tryz.pinned.checked.prog 5 Tryz.f5 Rows.printerBackSpec Rows.printerBackRow=true:=by kernel_rfl
end printerBack
end Go.Proofs.YtbahfelnbofjjaaGreatDoor

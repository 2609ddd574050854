/-
  PrinterItems: closed facts.
-/
import Derived.JoinedOf
import Derived.Test.YtbahfelnbofjjaaGreatDoorT15
set_option maxRecDepth 100000
set_option maxHeartbeats 16000000
namespace Go.Proofs.YtbahfelnbofjjaaGreatDoor.printerItems
open Go.ChangeShapes Go.WideShapes Go.ChangeAt Go.RowKit Go.Joins ch
theorem closed : joinedFacts Tryz.pinned.checked.prog 4 Tryz.f4 Rows.printerItemsSpec Rows.printerItemsRow = true := by kernel_rfl
end Go.Proofs.YtbahfelnbofjjaaGreatDoor.printerItems

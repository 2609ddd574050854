/-
  PrinterRefuses: closed facts.
-/
import Derived.JoinedOf
import Derived.Test.YtbahfelnbofjjaaGreatDoorQ15
namespace Go.Proofs.YtbahfelnbofjjaaGreatDoor.printerRefuses
open Go.ChangeShapes Go.WideShapes Go.ChangeAt Go.RowKit Go.Joins ch
theorem closed : joinedFacts Tryz.pinned.checked.prog 10 Tryz.f10 Rows.printerRefusesSpec Rows.printerRefusesRow = true := by kernel_rfl
end Go.Proofs.YtbahfelnbofjjaaGreatDoor.printerRefuses

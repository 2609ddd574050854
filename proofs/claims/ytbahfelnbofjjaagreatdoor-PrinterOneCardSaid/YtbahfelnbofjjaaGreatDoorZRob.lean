/-
  PrinterOne: closed facts.
-/
import Derived.JoinedOf
import Derived.Test.YtbahfelnbofjjaaGreatDoorQ15
namespace Go.Proofs.YtbahfelnbofjjaaGreatDoor.printerOne
open Go.ChangeShapes Go.WideShapes Go.ChangeAt Go.RowKit Go.Joins ch
theorem closed : joinedFacts Tryz.pinned.checked.prog 11 Tryz.f11 Rows.printerOneSpec Rows.printerOneRow = true := by kernel_rfl
end Go.Proofs.YtbahfelnbofjjaaGreatDoor.printerOne

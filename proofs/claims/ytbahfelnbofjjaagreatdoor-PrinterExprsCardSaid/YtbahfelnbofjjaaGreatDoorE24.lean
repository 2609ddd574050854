/-
  PrinterExprs: closed facts.
-/
import Derived.JoinedOf
import Derived.Test.YtbahfelnbofjjaaGreatDoorE14
namespace Go.Proofs.YtbahfelnbofjjaaGreatDoor.printerExprs
open Go.ChangeShapes Go.WideShapes Go.ChangeAt Go.RowKit Go.Joins ch
theorem closed : joinedFacts Tryz.pinned.checked.prog 3 Tryz.f3 Rows.printerExprsSpec Rows.printerExprsRow = true := by kernel_rfl
end Go.Proofs.YtbahfelnbofjjaaGreatDoor.printerExprs

/-
  PrinterParens: closed facts.
-/
import Derived.JoinedOf
import Derived.Test.YtbahfelnbofjjaaGreatDoorG16
set_option maxRecDepth 100000
set_option maxHeartbeats 16000000
namespace Go.Proofs.YtbahfelnbofjjaaGreatDoor
namespace printerParens
open Go.ChangeShapes Go.WideShapes Go.ChangeAt Go.RowKit Go.Joins ch
theorem closed:joinedFacts Tryz.pinned.checked.prog 8 Tryz.f8 Rows.printerParensSpec Rows.printerParensRow=true:=by kernel_rfl
end printerParens
end Go.Proofs.YtbahfelnbofjjaaGreatDoor

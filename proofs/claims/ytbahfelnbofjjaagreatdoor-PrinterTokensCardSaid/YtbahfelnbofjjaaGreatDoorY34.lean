/-
  PrinterTokens: closed facts.
-/
import Derived.JoinedOf
import Derived.Test.YtbahfelnbofjjaaGreatDoorY17
set_option maxRecDepth 100000
set_option maxHeartbeats 16000000
namespace Go.Proofs.YtbahfelnbofjjaaGreatDoor
namespace printerTokens
open Go.ChangeShapes Go.WideShapes Go.ChangeAt Go.RowKit Go.Joins ch
theorem closed:joinedFacts Tryz.pinned.checked.prog 7 Tryz.f7 Rows.printerTokensSpec Rows.printerTokensRow=true:=by kernel_rfl
end printerTokens
end Go.Proofs.YtbahfelnbofjjaaGreatDoor

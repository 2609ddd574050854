/- PrinterModules. -/
import Derived.JoinedOf
import Derived.Test.YtbahfelnbofjjaaGreatDoorH16
set_option maxRecDepth 100000
set_option maxHeartbeats 16000000
namespace Go.Proofs.YtbahfelnbofjjaaGreatDoor
namespace printerModules
open Go.ChangeShapes Go.WideShapes Go.ChangeAt Go.RowKit Go.Joins ch
theorem two {a b:Bool} (h:a=true) (k:b=true):(a && b)=true:=by rw [h,k];rfl
theorem closed:joinedFacts Tryz.pinned.checked.prog 6 Tryz.f6 Rows.printerModulesSpec Rows.printerModulesRow=true:=by
 unfold joinedFacts;refine two (two (two (two (two (two (two (two (two (two (two (two (two (two (two (two (two (two (two (two (two (two (two (two (two (two (two (two (two (two (two ?_ ?_) ?_) ?_) ?_) ?_) ?_) ?_) ?_) ?_) ?_) ?_) ?_) ?_) ?_) ?_) ?_) ?_) ?_) ?_) ?_) ?_) ?_) ?_) ?_) ?_) ?_) ?_) ?_) ?_) ?_) ?_
 all_goals (as_aux_lemma=>kernel_rfl)
end printerModules
end Go.Proofs.YtbahfelnbofjjaaGreatDoor

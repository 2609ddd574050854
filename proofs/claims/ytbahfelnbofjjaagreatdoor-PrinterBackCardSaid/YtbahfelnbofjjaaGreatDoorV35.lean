/-
  PrinterBack: over all inputs; PrinterBack: facts of its card.
-/
import Derived.Test.YtbahfelnbofjjaaGreatDoorV33
import Derived.Test.YtbahfelnbofjjaaGreatDoorV34
set_option maxRecDepth 100000
set_option maxHeartbeats 16000000
namespace Go.Proofs.YtbahfelnbofjjaaGreatDoor
namespace printerBack
open Go.ChangeShapes Go.WideShapes Go.ChangeAt Go.RowKit Go.Joins ch
open Go.ChangeMaps (open_string shut_string)
theorem over:Rows.PrinterBackSaid :=
 OpenClaim.holds_of_wide 5 Tryz.f5 rfl rfl rfl rfl rfl rfl rfl ⟨rfl,rfl,rfl,rfl,rfl⟩ rfl rfl rfl rfl rfl (by kernel_rfl) Tryz.func5 closed
  (of_decide_eq_true (by kernel_rfl)) (by unfold Func.isWrapper;first | (rw [if_pos (by decide +kernel)];kernel_rfl) | (rw [if_neg (by decide +kernel)];exact ⟨rfl,rfl⟩))
  (fun os started H enc _=>lifted os started H enc)
theorem wf:Rows.printerBackRow.wfByText (OpenSpec.ofChange Rows.printerBackSpec)=true:=by kernel_rfl
theorem main:Tryz.pinned.checked.prog.mainIs=some (Rows.printerBackCard.stood.harness.1,Rows.printerBackCard.stood.harness.2.toList):=by kernel_rfl
theorem seen:Rows.printerBackCard.stood.looks=Tryz.pinned.checked.prog.looks []:=by kernel_rfl
theorem goes:false=Rows.printerBackRow.goesBy Tryz.pinned.checked.prog:=by kernel_rfl
end printerBack
end Go.Proofs.YtbahfelnbofjjaaGreatDoor

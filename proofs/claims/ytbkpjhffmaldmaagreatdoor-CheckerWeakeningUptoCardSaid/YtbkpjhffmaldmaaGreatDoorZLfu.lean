/-
  The heap with the listed variables laid by hand: a witness within the bound of size.
-/
import Derived.Lay
import Derived.Test.YtbkpjhffmaldmaaGreatDoorQ14
namespace Go.Proofs.YtbkpjhffmaldmaaGreatDoor
open Go.ChangeShapes Go.WideShapes Go.ChangeAt Go.RowKit Go.Joins dec ch

set_option maxRecDepth 100000 in
/-- The tables laid by hand meet the condition. -/
theorem laid_met (os : Os) (args : Array Value) : laidMetH Tryz.prog laid7 ((World.laidAll Tryz.prog os laid7).forCall (fun _ _ => 0) ⟨#[], args, []⟩).memory := by
  rw [MakeChecks.laidMetH_plain _ _ _ (by kernel_rfl)]
  exact laidMet_laidAll _ (by kernel_rfl) (by kernel_rfl)
set_option maxRecDepth 100000 in
theorem laid_shaped (os : Os) : (World.laidAll Tryz.prog os laid7).Shaped Tryz.prog := World.shaped_of_ZipB (by kernel_rfl) (by kernel_rfl)
end Go.Proofs.YtbkpjhffmaldmaaGreatDoor

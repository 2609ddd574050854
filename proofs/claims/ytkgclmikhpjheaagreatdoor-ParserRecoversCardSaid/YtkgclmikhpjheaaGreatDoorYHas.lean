/-
  has: a source with these tokens and problems.
-/
import Derived.Test.YtkgclmikhpjheaaGreatDoorYMc
namespace Go.Proofs.YtkgclmikhpjheaaGreatDoor
open Go.RowKit dec

end Go.Proofs.YtkgclmikhpjheaaGreatDoor

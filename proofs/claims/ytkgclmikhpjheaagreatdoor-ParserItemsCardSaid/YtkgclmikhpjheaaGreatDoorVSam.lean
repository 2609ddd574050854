/-
  The statements' helpers: sources, tokens, lists that are the same.
-/
import Derived.Test.YtkgclmikhpjheaaGreatDoorQ01
import Derived.Test.YtkgclmikhpjheaaGreatDoorQ10
namespace Go.Proofs.YtkgclmikhpjheaaGreatDoor
open Go.RowKit dec

end Go.Proofs.YtkgclmikhpjheaaGreatDoor

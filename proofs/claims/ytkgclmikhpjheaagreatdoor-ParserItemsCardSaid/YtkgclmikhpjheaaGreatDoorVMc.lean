/-
  Appending whole slices of tokens and of problems; literals.
-/
import Derived.Laws.AppendOwn
import Derived.Test.YtkgclmikhpjheaaGreatDoorVSam
namespace Go.Proofs.YtkgclmikhpjheaaGreatDoor.tk
open Go.RowKit dec

end Go.Proofs.YtkgclmikhpjheaaGreatDoor.tk
namespace Go.Proofs.YtkgclmikhpjheaaGreatDoor.pb
open Go.RowKit dec

end Go.Proofs.YtkgclmikhpjheaaGreatDoor.pb

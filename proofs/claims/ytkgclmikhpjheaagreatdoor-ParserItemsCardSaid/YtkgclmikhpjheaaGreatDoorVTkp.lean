/-
  The source that Join makes of the tokens of a source is parsed as the same.
-/
import Derived.Test.YtkgclmikhpjheaaGreatDoorQ15
import Derived.Test.YtkgclmikhpjheaaGreatDoorVJnp
namespace Go.Proofs.YtkgclmikhpjheaaGreatDoor.pa
open Go.RowKit dec

end Go.Proofs.YtkgclmikhpjheaaGreatDoor.pa

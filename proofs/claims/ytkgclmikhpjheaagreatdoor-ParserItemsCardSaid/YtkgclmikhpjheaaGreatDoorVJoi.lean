/-
  lexer.Join.
-/
import Derived.Test.YtkgclmikhpjheaaGreatDoorVJnp
namespace Go.Proofs.YtkgclmikhpjheaaGreatDoor
open Go.RowKit dec

end Go.Proofs.YtkgclmikhpjheaaGreatDoor

/-
  lexer.Join.
-/
import Derived.Test.YtkgclmikhpjheaaGreatDoorYJnp
namespace Go.Proofs.YtkgclmikhpjheaaGreatDoor
open Go.RowKit dec

end Go.Proofs.YtkgclmikhpjheaaGreatDoor

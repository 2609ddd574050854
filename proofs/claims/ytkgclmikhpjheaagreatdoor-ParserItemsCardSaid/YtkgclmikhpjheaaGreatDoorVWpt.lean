/-
  ParserTokens: the walk. (Written by g_wpt.py.)
-/
import Derived.Test.YtkgclmikhpjheaaGreatDoorQ15
import Derived.Test.YtkgclmikhpjheaaGreatDoorVJoi
import Derived.Test.YtkgclmikhpjheaaGreatDoorVLrg
import Derived.Test.YtkgclmikhpjheaaGreatDoorVTkp
namespace Go.Proofs.YtkgclmikhpjheaaGreatDoor.pa
open Go.RowKit dec

theorem Mov.kp {C : Nat} {w w' : World} {v : Value} {m : Mo} (h : Mov C w v m) (k : Kp C w w') : Mov C w' v m := by
  obtain ⟨ta, tc, fa, fc, e, R, F⟩ := h
  exact ⟨ta, tc, fa, fc, e, R.kpT (ok := fun _ => True) trivial k fun c x hq => TbQ.kpT trivial trivial hq k, F.kpT (ok := fun _ => True) trivial k fun c x hq => FeQ.kpT trivial trivial hq k⟩
end Go.Proofs.YtkgclmikhpjheaaGreatDoor.pa

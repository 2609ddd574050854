/-
  The statement UnitsMatchesCheck, walked.
-/
import Derived.Test.YtcndlcogainnkaaGreatDoorExa
import Derived.Test.YtcndlcogainnkaaGreatDoorRck
import Derived.Test.YtcndlcogainnkaaGreatDoorRnm
namespace Go.Proofs.YtcndlcogainnkaaGreatDoor
open Go.RowKit dec

set_option maxRecDepth 100000 in
set_option maxHeartbeats 4000000 in
theorem walk_mcheck (a0 : Option Addr) (n0 c0 : Nat) (l : List Fa) (w : World) (hA : Sl w a0 n0 c0 l) (hx : ∀ x ∈ l, -9223372036854775808 ≤ x.2 ∧ x.2 ≤ 9223372036854775807) (hlen : l.length < 5864062014805) (T : Tabs w) :
    Calls Tryz.prog 3 #[.slice a0 n0 c0] w fun e w' => e = .returned (.bool true) ∧ Below w.heap.size w w' := by
  have E0 := Lib.hid (example_any w T)
  have SA := Lib.hid hA
  have KA := Lib.hid (fun W h => check_any a0 n0 c0 l W h)
  have KB := Lib.hid (fun W h => rcheck_any a0 n0 c0 l W h)
  have NA := Lib.hid (fun W h => normal_any a0 n0 c0 l W h hx hlen)
  have NB := Lib.hid (fun W h => rnormal_any a0 n0 c0 l W h hx hlen)
  obtain ⟨kp, hkp⟩ : ∃ k, (nL l).length = k := ⟨_, rfl⟩
  have LP := Lib.hid hkp
  have SM := Lib.hid (fun a c b d W h1 h2 => rsame_any a kp c b kp d (nL l) (nL l) W h1 h2)
  rw [show sameB (nL l) (nL l) = true from decide_eq_true rfl] at SM
  clear hA hx hlen T hkp
  generalize nL l = u at *
  generalize nE l = ee at *
  generalize ck l = ce at *
  go_enter Tryz.func3, Tryz.ntmps3
  go_wp2_with fail
  refine (E0.out).mono ?_
  rintro e z1 ⟨rfl, bX⟩
  replace SA := Lib.hid (SA.out.keeps bX)
  have BB1 := Lib.hid bX
  clear bX
  go_wp2_with fail
  refine (NA.out _ SA.out).mono ?_
  rintro e z2 ⟨v, rfl, oX, bX⟩
  obtain ⟨aa2, cc2, rfl, sX⟩ := oX.ou LP.out
  replace SA := Lib.hid (SA.out.keeps bX)
  have BB2 := Lib.hid (bnext BB1.out bX)
  clear bX
  have RA := Lib.hid sX
  clear sX
  clear oX
  go_wp2_with fail
  refine (NB.out _ SA.out).mono ?_
  rintro e z3 ⟨v, rfl, oX, bX⟩
  obtain ⟨aa3, cc3, rfl, sX⟩ := oX.ou LP.out
  replace SA := Lib.hid (SA.out.keeps bX)
  replace RA := Lib.hid (RA.out.keeps bX)
  have BB3 := Lib.hid (bnext BB2.out bX)
  clear bX
  have RB := Lib.hid sX
  clear sX
  clear oX
  go_wp2_with fail
  refine (KA.out _ SA.out).mono ?_
  rintro e z4 ⟨rfl, bX⟩
  replace SA := Lib.hid (SA.out.keeps bX)
  replace RA := Lib.hid (RA.out.keeps bX)
  replace RB := Lib.hid (RB.out.keeps bX)
  have BB4 := Lib.hid (bnext BB3.out bX)
  clear bX
  go_wp2_with fail
  refine (KB.out _ SA.out).mono ?_
  rintro e z5 ⟨rfl, bX⟩
  replace SA := Lib.hid (SA.out.keeps bX)
  replace RA := Lib.hid (RA.out.keeps bX)
  replace RB := Lib.hid (RB.out.keeps bX)
  have BB5 := Lib.hid (bnext BB4.out bX)
  clear bX
  go_wp2_with fail
  refine (SM.out _ _ _ _ _ RA.out RB.out).mono ?_
  rintro e z6 ⟨rfl, bX⟩
  replace SA := Lib.hid (SA.out.keeps bX)
  replace RA := Lib.hid (RA.out.keeps bX)
  replace RB := Lib.hid (RB.out.keeps bX)
  have BB6 := Lib.hid (bnext BB5.out bX)
  clear bX
  go_wp2_with fail
  go_ret
  exact ⟨rfl, BB6.out⟩
end Go.Proofs.YtcndlcogainnkaaGreatDoor

/-
  The statement UnitsMatchesProducts, walked.
-/
import Derived.Test.YtcndlcogainnkaaGreatDoorExa
import Derived.Test.YtcndlcogainnkaaGreatDoorRcm
namespace Go.Proofs.YtcndlcogainnkaaGreatDoor
open Go.RowKit dec

set_option maxRecDepth 100000 in
set_option maxHeartbeats 4000000 in
theorem walk_mprod (a0 : Option Addr) (n0 c0 : Nat) (l : List Fa) (a1 : Option Addr) (n1 c1 : Nat) (r : List Fa) (w : World) (hA : Sl w a0 n0 c0 l) (hB : Sl w a1 n1 c1 r) (T : Tabs w) :
    Calls Tryz.prog 4 #[.slice a0 n0 c0, .slice a1 n1 c1] w fun e w' => e = .returned (.bool true) ∧ Below w.heap.size w w' := by
  have E0 := Lib.hid (example_any w T)
  have SA := Lib.hid hA
  have SB := Lib.hid hB
  have TA := Lib.hid (fun W h1 h2 => times_any a0 n0 c0 a1 n1 c1 l r W h1 h2)
  have TB := Lib.hid (fun W h1 h2 => rtimes_any a0 n0 c0 a1 n1 c1 l r W h1 h2)
  have OA := Lib.hid (fun W h1 h2 => over_any a0 n0 c0 a1 n1 c1 l r W h1 h2)
  have OB := Lib.hid (fun W h1 h2 => rover_any a0 n0 c0 a1 n1 c1 l r W h1 h2)
  have UA := Lib.hid (fun W h1 h2 => same_any a0 n0 c0 a1 n1 c1 l r W h1 h2)
  have UB := Lib.hid (fun W h1 h2 => rsame_any a0 n0 c0 a1 n1 c1 l r W h1 h2)
  obtain ⟨kp, hkp⟩ : ∃ k, (cL 1 l r).length = k := ⟨_, rfl⟩
  obtain ⟨kq, hkq⟩ : ∃ k, (cL (-1) l r).length = k := ⟨_, rfl⟩
  have LP := Lib.hid hkp
  have LQ := Lib.hid hkq
  have SP := Lib.hid (fun a c b d W h1 h2 => rsame_any a kp c b kp d (cL 1 l r) (cL 1 l r) W h1 h2)
  rw [show sameB (cL 1 l r) (cL 1 l r) = true from decide_eq_true rfl] at SP
  have SQ := Lib.hid (fun a c b d W h1 h2 => rsame_any a kq c b kq d (cL (-1) l r) (cL (-1) l r) W h1 h2)
  rw [show sameB (cL (-1) l r) (cL (-1) l r) = true from decide_eq_true rfl] at SQ
  clear hA hB T hkp hkq
  generalize cL 1 l r = u1 at *
  generalize cL (-1) l r = u2 at *
  generalize cE 1 l r = e1 at *
  generalize cE (-1) l r = e2 at *
  generalize sameB l r = sb at *
  go_enter Tryz.func4, Tryz.ntmps4
  go_wp2_with fail
  refine (E0.out).mono ?_
  rintro e z1 ⟨rfl, bX⟩
  replace SA := Lib.hid (SA.out.keeps bX)
  replace SB := Lib.hid (SB.out.keeps bX)
  have BB1 := Lib.hid bX
  clear bX
  go_wp2_with fail
  refine (TA.out _ SA.out SB.out).mono ?_
  rintro e z2 ⟨v, rfl, oX, bX⟩
  obtain ⟨aa2, cc2, rfl, sX⟩ := oX.ou LP.out
  replace SA := Lib.hid (SA.out.keeps bX)
  replace SB := Lib.hid (SB.out.keeps bX)
  have BB2 := Lib.hid (bnext BB1.out bX)
  clear bX
  have RA := Lib.hid sX
  clear sX
  clear oX
  go_wp2_with fail
  refine (TB.out _ SA.out SB.out).mono ?_
  rintro e z3 ⟨v, rfl, oX, bX⟩
  obtain ⟨aa3, cc3, rfl, sX⟩ := oX.ou LP.out
  replace SA := Lib.hid (SA.out.keeps bX)
  replace SB := Lib.hid (SB.out.keeps bX)
  replace RA := Lib.hid (RA.out.keeps bX)
  have BB3 := Lib.hid (bnext BB2.out bX)
  clear bX
  have RB := Lib.hid sX
  clear sX
  clear oX
  go_wp2_with fail
  refine (OA.out _ SA.out SB.out).mono ?_
  rintro e z4 ⟨v, rfl, oX, bX⟩
  obtain ⟨aa4, cc4, rfl, sX⟩ := oX.ou LQ.out
  replace SA := Lib.hid (SA.out.keeps bX)
  replace SB := Lib.hid (SB.out.keeps bX)
  replace RA := Lib.hid (RA.out.keeps bX)
  replace RB := Lib.hid (RB.out.keeps bX)
  have BB4 := Lib.hid (bnext BB3.out bX)
  clear bX
  have RC := Lib.hid sX
  clear sX
  clear oX
  go_wp2_with fail
  refine (OB.out _ SA.out SB.out).mono ?_
  rintro e z5 ⟨v, rfl, oX, bX⟩
  obtain ⟨aa5, cc5, rfl, sX⟩ := oX.ou LQ.out
  replace SA := Lib.hid (SA.out.keeps bX)
  replace SB := Lib.hid (SB.out.keeps bX)
  replace RA := Lib.hid (RA.out.keeps bX)
  replace RB := Lib.hid (RB.out.keeps bX)
  replace RC := Lib.hid (RC.out.keeps bX)
  have BB5 := Lib.hid (bnext BB4.out bX)
  clear bX
  have RD := Lib.hid sX
  clear sX
  clear oX
  go_wp2_with fail
  refine (SP.out _ _ _ _ _ RA.out RB.out).mono ?_
  rintro e z6 ⟨rfl, bX⟩
  replace SA := Lib.hid (SA.out.keeps bX)
  replace SB := Lib.hid (SB.out.keeps bX)
  replace RA := Lib.hid (RA.out.keeps bX)
  replace RB := Lib.hid (RB.out.keeps bX)
  replace RC := Lib.hid (RC.out.keeps bX)
  replace RD := Lib.hid (RD.out.keeps bX)
  have BB6 := Lib.hid (bnext BB5.out bX)
  clear bX
  go_wp2_with fail
  refine (SQ.out _ _ _ _ _ RC.out RD.out).mono ?_
  rintro e z7 ⟨rfl, bX⟩
  replace SA := Lib.hid (SA.out.keeps bX)
  replace SB := Lib.hid (SB.out.keeps bX)
  replace RA := Lib.hid (RA.out.keeps bX)
  replace RB := Lib.hid (RB.out.keeps bX)
  replace RC := Lib.hid (RC.out.keeps bX)
  replace RD := Lib.hid (RD.out.keeps bX)
  have BB7 := Lib.hid (bnext BB6.out bX)
  clear bX
  go_wp2_with fail
  refine (UA.out _ SA.out SB.out).mono ?_
  rintro e z8 ⟨rfl, bX⟩
  replace SA := Lib.hid (SA.out.keeps bX)
  replace SB := Lib.hid (SB.out.keeps bX)
  replace RA := Lib.hid (RA.out.keeps bX)
  replace RB := Lib.hid (RB.out.keeps bX)
  replace RC := Lib.hid (RC.out.keeps bX)
  replace RD := Lib.hid (RD.out.keeps bX)
  have BB8 := Lib.hid (bnext BB7.out bX)
  clear bX
  go_wp2_with fail
  refine (UB.out _ SA.out SB.out).mono ?_
  rintro e z9 ⟨rfl, bX⟩
  replace SA := Lib.hid (SA.out.keeps bX)
  replace SB := Lib.hid (SB.out.keeps bX)
  replace RA := Lib.hid (RA.out.keeps bX)
  replace RB := Lib.hid (RB.out.keeps bX)
  replace RC := Lib.hid (RC.out.keeps bX)
  replace RD := Lib.hid (RD.out.keeps bX)
  have BB9 := Lib.hid (bnext BB8.out bX)
  clear bX
  go_wp2_with fail
  go_ret
  exact ⟨rfl, BB9.out⟩
end Go.Proofs.YtcndlcogainnkaaGreatDoor

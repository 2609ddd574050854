/-
  The statement UnitsMatchesText, walked.
-/
import Derived.Test.YtcndlcogainnkaaGreatDoorExa
import Derived.Test.YtcndlcogainnkaaGreatDoorRpr
namespace Go.Proofs.YtcndlcogainnkaaGreatDoor
open Go.RowKit dec

set_option maxRecDepth 100000 in
set_option maxHeartbeats 4000000 in
theorem walk_mtext (a0 : Option Addr) (n0 c0 : Nat) (l : List Fa) (s : ByteArray) (hs : s.size ≤ 140737488355328) (w : World) (hA : Sl w a0 n0 c0 l)
    (hx : ∀ x ∈ l, -9223372036854775808 ≤ x.2 ∧ x.2 ≤ 9223372036854775807) (hz : ∀ x ∈ l, x.1.size ≤ 1048576) (hlen : l.length < 5864062014805) (ht : ∀ j, (fT (l.take j)).length ≤ 140737488355328) (T : Tabs w) :
    Calls Tryz.prog 5 #[.slice a0 n0 c0, .string s] w fun e w' => e = .returned (.bool true) ∧ Below w.heap.size w w' := by
  have ht0 : (fT l).length ≤ 140737488355328 := by have := ht l.length; rwa [List.take_length] at this
  have E0 := Lib.hid (example_any w T)
  have T0 := Lib.hid T
  have SA := Lib.hid hA
  have PA := Lib.hid (fun W T => parse_any s hs W T)
  have PB := Lib.hid (fun W => rparse_any s hs W)
  have FA := Lib.hid (fun W h T => format_any a0 n0 c0 l W h hx hz hlen ht0 T)
  have FB := Lib.hid (fun W h => rformat_any a0 n0 c0 l W h hx ht)
  obtain ⟨t, htq⟩ : ∃ t : ByteArray, t = ⟨(fT l).toArray⟩ := ⟨_, rfl⟩
  have htz : t.size ≤ 140737488355328 := by rw [← str_len, htq]; exact ht0
  rw [← htq] at FA FB
  have PC := Lib.hid (fun W T => parse_any t htz W T)
  have PD := Lib.hid (fun W => rparse_any t htz W)
  obtain ⟨kp, hkp⟩ : ∃ k, (psL s.data.toList).length = k := ⟨_, rfl⟩
  obtain ⟨kq, hkq⟩ : ∃ k, (psL t.data.toList).length = k := ⟨_, rfl⟩
  have LP := Lib.hid hkp
  have LQ := Lib.hid hkq
  have SP := Lib.hid (fun a c b d W h1 h2 => rsame_any a kp c b kp d (psL s.data.toList) (psL s.data.toList) W h1 h2)
  rw [show sameB (psL s.data.toList) (psL s.data.toList) = true from decide_eq_true rfl] at SP
  have SQ := Lib.hid (fun a c b d W h1 h2 => rsame_any a kq c b kq d (psL t.data.toList) (psL t.data.toList) W h1 h2)
  rw [show sameB (psL t.data.toList) (psL t.data.toList) = true from decide_eq_true rfl] at SQ
  clear hA T hkp hkq htq htz ht0 ht hlen hz hx hs
  generalize psL s.data.toList = u1 at *
  generalize psL t.data.toList = u2 at *
  generalize psE s.data.toList = e1 at *
  generalize psE t.data.toList = e2 at *
  go_enter Tryz.func5, Tryz.ntmps5
  go_wp2_with fail
  refine (E0.out).mono ?_
  rintro e z1 ⟨rfl, bX⟩
  replace SA := Lib.hid (SA.out.keeps bX)
  have BB1 := Lib.hid bX
  have TT1 := Lib.hid (T0.out.stays bX)
  clear bX
  go_wp2_with fail
  refine (PA.out _ TT1.out).mono ?_
  rintro e z2 ⟨v, rfl, oX, bX⟩
  obtain ⟨aa2, cc2, rfl, sX⟩ := oX.ou LP.out
  replace SA := Lib.hid (SA.out.keeps bX)
  have BB2 := Lib.hid (bnext BB1.out bX)
  have TT2 := Lib.hid (TT1.out.stays bX)
  clear bX
  have RA := Lib.hid sX
  clear sX
  clear oX
  go_wp2_with fail
  refine (PB.out _).mono ?_
  rintro e z3 ⟨v, rfl, oX, bX⟩
  obtain ⟨aa3, cc3, rfl, sX⟩ := oX.ou LP.out
  replace SA := Lib.hid (SA.out.keeps bX)
  replace RA := Lib.hid (RA.out.keeps bX)
  have BB3 := Lib.hid (bnext BB2.out bX)
  have TT3 := Lib.hid (TT2.out.stays bX)
  clear bX
  have RB := Lib.hid sX
  clear sX
  clear oX
  go_wp2_with fail
  refine (FA.out _ SA.out TT3.out).mono ?_
  rintro e z4 ⟨rfl, bX⟩
  replace SA := Lib.hid (SA.out.keeps bX)
  replace RA := Lib.hid (RA.out.keeps bX)
  replace RB := Lib.hid (RB.out.keeps bX)
  have BB4 := Lib.hid (bnext BB3.out bX)
  have TT4 := Lib.hid (TT3.out.stays bX)
  clear bX
  go_wp2_with fail
  refine (PC.out _ TT4.out).mono ?_
  rintro e z5 ⟨v, rfl, oX, bX⟩
  obtain ⟨aa5, cc5, rfl, sX⟩ := oX.ou LQ.out
  replace SA := Lib.hid (SA.out.keeps bX)
  replace RA := Lib.hid (RA.out.keeps bX)
  replace RB := Lib.hid (RB.out.keeps bX)
  have BB5 := Lib.hid (bnext BB4.out bX)
  have TT5 := Lib.hid (TT4.out.stays bX)
  clear bX
  have RC := Lib.hid sX
  clear sX
  clear oX
  go_wp2_with fail
  refine (PD.out _).mono ?_
  rintro e z6 ⟨v, rfl, oX, bX⟩
  obtain ⟨aa6, cc6, rfl, sX⟩ := oX.ou LQ.out
  replace SA := Lib.hid (SA.out.keeps bX)
  replace RA := Lib.hid (RA.out.keeps bX)
  replace RB := Lib.hid (RB.out.keeps bX)
  replace RC := Lib.hid (RC.out.keeps bX)
  have BB6 := Lib.hid (bnext BB5.out bX)
  have TT6 := Lib.hid (TT5.out.stays bX)
  clear bX
  have RD := Lib.hid sX
  clear sX
  clear oX
  go_wp2_with fail
  refine (SP.out _ _ _ _ _ RA.out RB.out).mono ?_
  rintro e z7 ⟨rfl, bX⟩
  replace SA := Lib.hid (SA.out.keeps bX)
  replace RA := Lib.hid (RA.out.keeps bX)
  replace RB := Lib.hid (RB.out.keeps bX)
  replace RC := Lib.hid (RC.out.keeps bX)
  replace RD := Lib.hid (RD.out.keeps bX)
  have BB7 := Lib.hid (bnext BB6.out bX)
  have TT7 := Lib.hid (TT6.out.stays bX)
  clear bX
  go_wp2_with fail
  refine (FB.out _ SA.out).mono ?_
  rintro e z8 ⟨rfl, bX⟩
  replace SA := Lib.hid (SA.out.keeps bX)
  replace RA := Lib.hid (RA.out.keeps bX)
  replace RB := Lib.hid (RB.out.keeps bX)
  replace RC := Lib.hid (RC.out.keeps bX)
  replace RD := Lib.hid (RD.out.keeps bX)
  have BB8 := Lib.hid (bnext BB7.out bX)
  have TT8 := Lib.hid (TT7.out.stays bX)
  clear bX
  go_wp2_with fail
  refine (SQ.out _ _ _ _ _ RC.out RD.out).mono ?_
  rintro e z9 ⟨rfl, bX⟩
  replace SA := Lib.hid (SA.out.keeps bX)
  replace RA := Lib.hid (RA.out.keeps bX)
  replace RB := Lib.hid (RB.out.keeps bX)
  replace RC := Lib.hid (RC.out.keeps bX)
  replace RD := Lib.hid (RD.out.keeps bX)
  have BB9 := Lib.hid (bnext BB8.out bX)
  have TT9 := Lib.hid (TT8.out.stays bX)
  clear bX
  go_wp2_with fail
  go_ret
  exact ⟨rfl, BB9.out⟩
end Go.Proofs.YtcndlcogainnkaaGreatDoor

/-
  LexerTokens: the walk.
-/
import Derived.Test.YtkfciilclfhabaaGreatDoorRtk
import Derived.Test.YtkfciilclfhabaaGreatDoorLnf
namespace Go.Proofs.YtkfciilclfhabaaGreatDoor
open Go.RowKit dec

theorem smB_tok (s : ByteArray) : smB true 0 (tokL s) (tokL s) = true := by
  by_cases h : 16384 < s.size
  · unfold tokL
    rw [if_pos h]
    rfl
  · refine smB_refl true _ fun q hq => ?_
    have := tok_bounds (s := s) (by omega) hq
    unfold bdA
    omega
theorem spB_self (l : List Pb) : spB l l = true := decide_eq_true rfl
set_option maxRecDepth 100000 in
set_option maxHeartbeats 8000000 in
theorem walk_tokens (a0 : Option Addr) (n0 cap : Nat) (s : ByteArray) (w : World) (hS : Bs w a0 n0 cap s) (T : Tabs w) :
    Calls Tryz.prog 3 #[.slice a0 n0 cap] w fun e w' => e = .returned (.bool true) ∧ Below w.heap.size w w' := by
  have hn0 := hS.hn
  subst hn0
  have EX := Lib.hid (example_any w T)
  have T0 := Lib.hid T
  have S0 := Lib.hid hS
  clear T hS
  by_cases hbig : 17000 < s.size
  · have q1 : decide (17000 < (s.size : Int)) = true := decide_eq_true (by omega)
    clear hbig
    go_enter Tryz.func3, Tryz.ntmps3
    go_wp2_with fail
    refine EX.out.mono ?_
    rintro e w1 ⟨rfl, b1⟩
    have B1 := Lib.hid b1
    clear b1
    go_wp2_with fail
    go_ret
    exact ⟨rfl, B1.out⟩
  · have q1 : decide (17000 < (s.size : Int)) = false := decide_eq_false (by omega)
    have TA := Lib.hid (fun W hS T => tokens_any a0 s.size cap s W hS T)
    have TB := Lib.hid (fun W hS => rtokens_any a0 s.size cap s W hS)
    unfold TR at TA TB
    have SM := Lib.hid (fun a n cp c m cp2 W hA hB => same_any a n cp c m cp2 (tokL s) (tokL s) true 0 W hA hB)
    rw [smB_tok] at SM
    have SP := Lib.hid (fun a n cp c m cp2 W hA hB => sameProblems_any a n cp c m cp2 (tokB s) (tokB s) W hA hB)
    rw [spB_self] at SP
    clear hbig
    generalize tokL s = L at *
    generalize tokB s = P at *
    generalize tokE s = E at *
    have qe : (E == E) = true := by rw [beq_iff_eq]
    go_enter Tryz.func3, Tryz.ntmps3
    go_wp2_with fail
    refine EX.out.mono ?_
    rintro e w1 ⟨rfl, b1⟩
    have B1 := Lib.hid b1
    clear b1
    go_wp2_with fail
    refine (TA.out _ (S0.out.keeps B1.out) (T0.out.stays B1.out)).mono ?_
    rintro e w2 ⟨v, u, rfl, o2, p2, b2⟩
    obtain ⟨al, cl, rfl, sl⟩ := o2.sl
    obtain ⟨ab, cb, rfl, sb⟩ := p2.sl
    have B2 := Lib.hid (bnext B1.out b2)
    have SL := Lib.hid sl
    have SB := Lib.hid sb
    generalize L.length = k at SL ⊢
    generalize P.length = m at SB ⊢
    clear o2 p2 sl sb b2
    go_wp2_with fail
    refine (TB.out _ (S0.out.keeps B2.out)).mono ?_
    rintro e w3 ⟨v, u, rfl, o3, p3, b3⟩
    obtain ⟨am, cm, rfl, sm⟩ := o3.sl
    obtain ⟨ad, cd, rfl, sd⟩ := p3.sl
    have B3 := Lib.hid (bnext B2.out b3)
    have SL3 := Lib.hid (SL.out.keeps b3)
    have SB3 := Lib.hid (SB.out.keeps b3)
    have SM3 := Lib.hid sm
    have SD3 := Lib.hid sd
    generalize L.length = k2 at SM3 ⊢
    generalize P.length = m2 at SD3 ⊢
    clear o3 p3 sm sd b3
    go_wp2_with fail
    refine (SM.out _ _ _ _ _ _ _ SL3.out SM3.out).mono ?_
    rintro e w4 ⟨rfl, b4⟩
    have B4 := Lib.hid (bnext B3.out b4)
    have SB4 := Lib.hid (SB3.out.keeps b4)
    have SD4 := Lib.hid (SD3.out.keeps b4)
    clear b4
    go_wp2_with fail
    refine (SP.out _ _ _ _ _ _ _ SB4.out SD4.out).mono ?_
    rintro e w5 ⟨rfl, b5⟩
    have B5 := Lib.hid (bnext B4.out b5)
    clear b5
    go_wp2_with fail
    go_ret
    exact ⟨rfl, B5.out⟩
end Go.Proofs.YtkfciilclfhabaaGreatDoor

/-
  LexerJoins: the walk.
-/
import Derived.Test.YtkfciilclfhabaaGreatDoorRjo
import Derived.Test.YtkfciilclfhabaaGreatDoorExa
namespace Go.Proofs.YtkfciilclfhabaaGreatDoor
open Go.RowKit dec

theorem sml_fewR {l : List Tk} (h : sml l = true) : fewR l := ⟨fun x hx => by have := (sml_few h).1 x hx; omega, by have := (sml_few h).2; omega⟩
set_option maxRecDepth 100000 in
set_option maxHeartbeats 8000000 in
theorem walk_joins (a : Option Addr) (n cap : Nat) (l : List Tk) (w : World) (hS : tk.Sl w a n cap l) (T : Tabs w) :
    Calls Tryz.prog 4 #[.slice a n cap] w fun e w' => e = .returned (.bool true) ∧ Below w.heap.size w w' := by
  have EX := Lib.hid (example_any w T)
  have T0 := Lib.hid T
  have S0 := Lib.hid hS
  have SM := Lib.hid (fun W hS => small_any a n cap l W hS)
  clear T hS
  cases hs : sml l
  · rw [hs] at SM
    clear hs
    go_enter Tryz.func4, Tryz.ntmps4
    go_wp2_with fail
    refine EX.out.mono ?_
    rintro e w1 ⟨rfl, b1⟩
    have B1 := Lib.hid b1
    clear b1
    go_wp2_with fail
    refine (SM.out _ (S0.out.keeps B1.out)).mono ?_
    rintro e w2 ⟨rfl, b2⟩
    have B2 := Lib.hid (bnext B1.out b2)
    clear b2
    go_wp2_with fail
    go_ret
    exact ⟨rfl, B2.out⟩
  · rw [hs] at SM
    have FR := sml_fewR hs
    have JA := Lib.hid (fun W hS T => join_go a n cap l W hS (fewR_T FR) T)
    have JB := Lib.hid (fun W hS => rjoin_any a n cap l W hS FR)
    unfold JR at JA JB
    have qe : (joinE l == joinE l) = true := by rw [beq_iff_eq]
    clear hs FR
    generalize joinE l = E at *
    generalize joinB l = J at *
    go_enter Tryz.func4, Tryz.ntmps4
    go_wp2_with fail
    refine EX.out.mono ?_
    rintro e w1 ⟨rfl, b1⟩
    have B1 := Lib.hid b1
    clear b1
    go_wp2_with fail
    refine (SM.out _ (S0.out.keeps B1.out)).mono ?_
    rintro e w2 ⟨rfl, b2⟩
    have B2 := Lib.hid (bnext B1.out b2)
    clear b2
    go_wp2_with fail
    refine (JA.out _ (S0.out.keeps B2.out) (T0.out.stays B2.out)).mono ?_
    rintro e w3 ⟨s3, a3, c3, hs3, rfl, bs3, b3⟩
    have B3 := Lib.hid (bnext B2.out b3)
    have BS3 := Lib.hid bs3
    clear b3 bs3
    go_wp2_with fail
    refine (JB.out _ (S0.out.keeps B3.out)).mono ?_
    rintro e w4 ⟨s4, a4, c4, hs4, rfl, bs4, b4⟩
    obtain rfl : s3 = s4 := ba_ext (hs3.trans hs4.symm)
    have B4 := Lib.hid (bnext B3.out b4)
    have g1 := (BS3.out.keeps b4).str
    have g2 := bs4.str
    clear b4 bs4 hs3 hs4 BS3
    go_wp2_with fail
    go_ret
    exact ⟨rfl, B4.out⟩
end Go.Proofs.YtkfciilclfhabaaGreatDoor

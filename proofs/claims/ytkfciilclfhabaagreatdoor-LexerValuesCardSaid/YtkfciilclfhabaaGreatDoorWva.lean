/-
  LexerValues: the walk.
-/
import Derived.Test.YtkfciilclfhabaaGreatDoorVlf
import Derived.Test.YtkfciilclfhabaaGreatDoorRck
import Derived.Test.YtkfciilclfhabaaGreatDoorPar
namespace Go.Proofs.YtkfciilclfhabaaGreatDoor
open Go.RowKit dec

set_option maxRecDepth 100000 in
set_option maxHeartbeats 8000000 in
/-- Values of which nothing is said. -/
theorem walk_values_out (k n : Int) (s : ByteArray) (w : World) (T : Tabs w) (h : 100 < s.size ∨ (s.size ≤ 100 ∧ (ok ⟨k, n, s⟩ = false ∨ (ok ⟨k, n, s⟩ = true ∧ (k < 2 ∨ (2 ≤ k ∧ 4 < k)))))) :
    Calls Tryz.prog 6 #[.agg #[.int .i64 k, .int .i64 n, .string s]] w fun e w' => e = .returned (.bool true) ∧ Below w.heap.size w w' := by
  have B0 := Lib.hid (balloc (b0 w) (.cells #[.int .i64 k, .int .i64 n, .string s] 42))
  have V0 := Lib.hid (Vx.new w k n s 42)
  have EX := Lib.hid (example_any _ (T.stays B0.out))
  clear T
  rcases h with h | ⟨h, hv⟩
  · have q1 : decide (100 < (s.size : Int)) = true := decide_eq_true (by omega)
    have q1' : decide (100 < s.size) = true := decide_eq_true h
    clear h
    go_enter Tryz.func6, Tryz.ntmps6
    go_wp2_with fail
    refine EX.out.mono ?_
    rintro e w1 ⟨rfl, b1⟩
    have B1 := Lib.hid (bnext B0.out b1)
    obtain ⟨c0, c1, c2⟩ := V0.out.keeps b1
    clear b1
    go_wp2_with fail
    go_ret
    exact ⟨rfl, B1.out⟩
  · have q1 : decide (100 < (s.size : Int)) = false := decide_eq_false (by omega)
    have q1' : decide (100 < s.size) = false := decide_eq_false (by omega)
    have VC := Lib.hid (fun W => valid_any k n s (by omega) W)
    clear h
    rcases hv with hv | ⟨hv, h | ⟨h2, h⟩⟩
    · rw [hv] at VC
      clear hv
      go_enter Tryz.func6, Tryz.ntmps6
      go_wp2_with fail
      refine EX.out.mono ?_
      rintro e w1 ⟨rfl, b1⟩
      have B1 := Lib.hid (bnext B0.out b1)
      obtain ⟨c0, c1, c2⟩ := V0.out.keeps b1
      clear b1
      go_wp2_with fail
      refine (VC.out _).mono ?_
      rintro e w2 ⟨rfl, b2⟩
      have B2 := Lib.hid (bnext B1.out b2)
      clear b2
      go_wp2_with fail
      go_ret
      exact ⟨rfl, B2.out⟩
    · rw [hv] at VC
      have q2 : decide (k < 2) = true := decide_eq_true h
      clear hv h
      go_enter Tryz.func6, Tryz.ntmps6
      go_wp2_with fail
      refine EX.out.mono ?_
      rintro e w1 ⟨rfl, b1⟩
      have B1 := Lib.hid (bnext B0.out b1)
      have V1 := Lib.hid (V0.out.keeps b1)
      obtain ⟨c0, c1, c2⟩ := V1.out
      clear b1
      go_wp2_with fail
      refine (VC.out _).mono ?_
      rintro e w2 ⟨rfl, b2⟩
      have B2 := Lib.hid (bnext B1.out b2)
      clear c0 c1 c2
      obtain ⟨c0, c1, c2⟩ := V1.out.keeps b2
      clear b2
      go_wp2_with fail
      go_ret
      exact ⟨rfl, B2.out⟩
    · rw [hv] at VC
      have q2 : decide (k < 2) = false := decide_eq_false (by omega)
      have q3 : decide (4 < k) = true := decide_eq_true h
      clear hv h h2
      go_enter Tryz.func6, Tryz.ntmps6
      go_wp2_with fail
      refine EX.out.mono ?_
      rintro e w1 ⟨rfl, b1⟩
      have B1 := Lib.hid (bnext B0.out b1)
      have V1 := Lib.hid (V0.out.keeps b1)
      obtain ⟨c0, c1, c2⟩ := V1.out
      clear b1
      go_wp2_with fail
      refine (VC.out _).mono ?_
      rintro e w2 ⟨rfl, b2⟩
      have B2 := Lib.hid (bnext B1.out b2)
      clear c0 c1 c2
      obtain ⟨c0, c1, c2⟩ := V1.out.keeps b2
      clear b2
      go_wp2_with fail
      go_ret
      exact ⟨rfl, B2.out⟩
set_option maxRecDepth 100000 in
set_option maxHeartbeats 8000000 in
/-- Texts. -/
theorem walk_values_text (s : ByteArray) (h1 : s.size ≤ 64) (h2 : pB 32 s.data.toList = true) (w : World) (T : Tabs w) :
    Calls Tryz.prog 6 #[.agg #[.int .i64 4, .int .i64 0, .string s]] w fun e w' => e = .returned (.bool true) ∧ Below w.heap.size w w' := by
  obtain ⟨t, z1, z2, z3, y1, y2, y3⟩ := text_facts s h1 h2
  have T0 := Lib.hid T
  have B0 := Lib.hid (balloc (b0 w) (.cells #[.int .i64 4, .int .i64 0, .string s] 42))
  have V0 := Lib.hid (Vx.new w 4 0 s 42)
  have EX := Lib.hid (example_any _ (T.stays B0.out))
  have VC := Lib.hid (fun W => valid_any 4 0 s (by omega) W)
  rw [ok_text h1 h2] at VC
  have FC := Lib.hid (fun W T => formatV_any 4 0 s (by omega) W T)
  rw [z3] at FC
  have q1 : decide (100 < (s.size : Int)) = false := decide_eq_false (by omega)
  have q1' : decide (100 < s.size) = false := decide_eq_false (by omega)
  have TC := Lib.hid (fun a cp W hS T => tokens_any a t.size cp t W hS T)
  unfold TR at TC
  rw [y1, y2, y3] at TC
  have KC := Lib.hid (fun W => tok_any 4 s 0 W)
  have A := add_str [34] s.data.toList (by decide) (by rw [str_len]; omega)
  replace A : ∀ W, (Op.stringOp .add ⟨#[34]⟩ s).run Tryz.prog W = .ok (.string ⟨(34 :: s.data.toList).toArray⟩) W := A
  have B := add_str (34 :: s.data.toList) [34] (by rw [List.length_cons, str_len]; omega) (by decide)
  have ht : (⟨(34 :: (s.data.toList ++ [34])).toArray⟩ : ByteArray) = t := (ba_of z2).symm
  replace B : ∀ W, (Op.stringOp .add ⟨(34 :: s.data.toList).toArray⟩ ⟨#[34]⟩).run Tryz.prog W = .ok (.string t) W := by rw [← ht]; exact B
  have htt : (⟨t.data.toList.toArray⟩ : ByteArray) = t := ba_of rfl |>.symm
  rw [htt] at FC
  have Z0 := Lib.hid z1
  have mx1 : max (0 : Int) (-0) = 0 := by decide
  clear T z1 z2 z3 y1 y2 y3 h1 h2 ht htt
  generalize (⟨(34 :: s.data.toList).toArray⟩ : ByteArray) = s0 at *
  go_enter Tryz.func6, Tryz.ntmps6
  go_wp2_with fail
  refine EX.out.mono ?_
  rintro e w1 ⟨rfl, b1⟩
  have B1 := Lib.hid (bnext B0.out b1)
  have V1 := Lib.hid (V0.out.keeps b1)
  obtain ⟨c0, c1, c2⟩ := V1.out
  clear b1
  go_wp2_with fail
  refine (VC.out _).mono ?_
  rintro e w2 ⟨rfl, b2⟩
  have B2 := Lib.hid (bnext B1.out b2)
  have V2 := Lib.hid (V1.out.keeps b2)
  clear c0 c1 c2
  obtain ⟨c0, c1, c2⟩ := V2.out
  clear b2
  obtain ⟨d0, d1, d2⟩ := V2.out.past (.cells #[.int .i64 4, .int .i64 0, .string s] 42)
  have B3 := Lib.hid (balloc B2.out (.cells #[.int .i64 4, .int .i64 0, .string s] 42))
  have V3 := Lib.hid (V2.out.past (.cells #[.int .i64 4, .int .i64 0, .string s] 42))
  go_wp2_with fail
  refine (FC.out _ (T0.out.stays B3.out)).mono ?_
  rintro e w4 ⟨rfl, b4⟩
  have B4 := Lib.hid (bnext B3.out b4)
  have V4 := Lib.hid (V3.out.keeps b4)
  clear b4 c0 c1 c2 d0 d1 d2
  obtain ⟨w5, cv, hcv, hB, b5⟩ := bytes_of w4 t (by have := Z0.out; omega)
  have B5 := Lib.hid (bnext B4.out b5)
  have V5 := Lib.hid (V4.out.keeps b5)
  have BS := Lib.hid hB
  clear b5 hB
  go_wp2_with fail
  refine (TC.out _ _ _ BS.out (T0.out.stays B5.out)).mono ?_
  rintro e w6 ⟨v, u, rfl, o6, p6, b6⟩
  obtain ⟨al, cl, rfl, sl⟩ := o6.sl
  obtain ⟨ab, cb, rfl, sb⟩ := p6.sl
  have B6 := Lib.hid (bnext B5.out b6)
  have V6 := Lib.hid (V5.out.keeps b6)
  obtain ⟨bk, off, rfl, hD⟩ := sl.hat.resolve_left (by simp)
  obtain ⟨e0, e1, e2⟩ := hD 0 (by simp)
  rw [Nat.zero_mul, Nat.add_zero] at e0 e1 e2
  simp only [tk.gt, List.getD_cons_zero] at e0 e1 e2
  obtain ⟨c0, c1, c2⟩ := V6.out
  have KG := Lib.hid (all_grown KC.out w6)
  have g0 := cell_regrown c0
  have g1 := cell_regrown c1
  have g2 := cell_regrown c2
  have g3 := cell_regrown e0
  have g4 := cell_regrown e1
  have g5 := cell_regrown e2
  have scap := sl.hcap
  clear o6 p6 sb sl hD b6
  go_wp2_with fail
  refine wp_region_quiet_below (by kernel_rfl) (by kernel_rfl) ?_
  repeat (first | go_big_quiet_skip | (go_big_quiet_want; go_big_quiet_op; first | go_big_quiet_on | go_big_quiet_call ((go_at_call 20; with_reducible exact KG.out _ _))))
  refine wpQuiet_nil ?_
  intro w9 hw9
  have B9 := Lib.hid (bnext B6.out (below_of hw9))
  clear hw9
  go_wp2_with fail
  go_ret
  exact ⟨rfl, B9.out⟩
end Go.Proofs.YtkfciilclfhabaaGreatDoor

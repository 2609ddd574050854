/-
  Tokens alone, keywords, names.
-/
import Derived.Test.YtkfciilclfhabaaGreatDoorFlt
namespace Go.Proofs.YtkfciilclfhabaaGreatDoor
open Go.RowKit dec

/-- Is s exactly one token of this kind? -/
def prB (k : Int) (s : ByteArray) : Bool := decide (shp s.data.toList = (k, s.size)) && decide (flt k s.data.toList = 0)
theorem prB_pr (x : Tk) {s : ByteArray} (h : s.data.toList = so x) : prB x.k s = pr x := by
  unfold prB pr
  rw [h, ← h, str_len]
set_option maxRecDepth 100000 in
set_option maxHeartbeats 1000000 in
theorem isToken_any (k : Int) (s : ByteArray) (hs : s.size ≤ 1048576) (w : World) (T : Tabs w) :
    Calls Tryz.prog 32 #[.int .i64 k, .string s] w fun e w' => e = .returned (.bool (prB k s)) ∧ Below w.heap.size w w' := by
  have SC := Lib.hid (shape_any s (by omega) w T)
  have T0 := Lib.hid T
  clear T
  obtain ⟨q, hq⟩ : ∃ q, shp s.data.toList = q := ⟨_, rfl⟩
  obtain ⟨k1, n⟩ := q
  rw [hq] at SC
  by_cases h1 : k1 = k
  · subst h1
    have q1 : (k1 == k1) = true := by rw [beq_iff_eq]
    by_cases h2 : n = s.size
    · subst h2
      have q2 : ((s.size : Int) == (s.size : Int)) = true := by rw [beq_iff_eq]
      have FC := Lib.hid (fun W T => fault_any k1 s hs (.inr (by rw [hq, str_len])) W T)
      have hp := Lib.hid (show prB k1 s = (flt k1 s.data.toList == 0) by unfold prB; rw [decide_eq_true hq, Bool.true_and, eqb])
      clear hq hs
      generalize flt k1 s.data.toList = f at *
      go_enter Tryz.func32, Tryz.ntmps32
      go_wp2_with fail
      refine SC.out.mono ?_
      rintro e w1 ⟨rfl, b1⟩
      have B1 := Lib.hid b1
      have T1 := Lib.hid (T0.out.stays b1)
      clear b1
      go_wp2_with fail
      refine (FC.out _ T1.out).mono ?_
      rintro e w2 ⟨rfl, b2⟩
      have B2 := Lib.hid (bnext B1.out b2)
      clear b2
      generalize hf : (f == 0) = b at *
      cases b
      · go_wp2_with fail
        go_ret
        exact ⟨ret_bool hp.out.symm, B2.out⟩
      · go_wp2_with fail
        go_ret
        exact ⟨ret_bool hp.out.symm, B2.out⟩
    · have q2 : ((n : Int) == (s.size : Int)) = false := by rw [beq_eq_false_iff_ne]; omega
      have hp := Lib.hid (show prB k1 s = false by unfold prB; rw [decide_eq_false (by rw [hq]; intro e; exact h2 (Prod.mk.inj e).2), Bool.false_and])
      clear hq hs T0 h2
      go_enter Tryz.func32, Tryz.ntmps32
      go_wp2_with fail
      refine SC.out.mono ?_
      rintro e w1 ⟨rfl, b1⟩
      have B1 := Lib.hid b1
      clear b1
      go_wp2_with fail
      go_ret
      exact ⟨ret_bool hp.out.symm, B1.out⟩
  · have q1 : (k1 == k) = false := by rw [beq_eq_false_iff_ne]; exact h1
    have hp := Lib.hid (show prB k s = false by unfold prB; rw [decide_eq_false (by rw [hq]; intro e; exact h1 (Prod.mk.inj e).1), Bool.false_and])
    clear hq hs T0 h1
    go_enter Tryz.func32, Tryz.ntmps32
    go_wp2_with fail
    refine SC.out.mono ?_
    rintro e w1 ⟨rfl, b1⟩
    have B1 := Lib.hid b1
    clear b1
    go_wp2_with fail
    go_ret
    exact ⟨ret_bool hp.out.symm, B1.out⟩
theorem add_str (x y : List UInt8) (hx : x.length ≤ 1048576) (hy : y.length ≤ 1048576) (W : World) : (Op.stringOp .add ⟨x.toArray⟩ ⟨y.toArray⟩).run Tryz.prog W = .ok (.string ⟨(x ++ y).toArray⟩) W := run_string_add_lists W x y (by omega) (by omega)
set_option maxRecDepth 100000 in
theorem source_any (x : Tk) (hs : x.t.size ≤ 1000000) (w : World) :
    Calls Tryz.prog 31 #[.agg #[.int .i64 x.k, .string x.t, .int .i64 x.a]] w fun e w' => e = .returned (.string ⟨(so x).toArray⟩) ∧ Below w.heap.size w w' := by
  have A := add_str [34] x.t.data.toList (by decide) (by rw [str_len]; omega)
  replace A : ∀ W, (Op.stringOp .add ⟨#[34]⟩ x.t).run Tryz.prog W = .ok (.string ⟨(34 :: x.t.data.toList).toArray⟩) W := A
  have B := add_str (34 :: x.t.data.toList) [34] (by rw [List.length_cons, str_len]; omega) (by decide)
  replace B : ∀ W, (Op.stringOp .add ⟨(34 :: x.t.data.toList).toArray⟩ ⟨#[34]⟩).run Tryz.prog W = .ok (.string ⟨(34 :: (x.t.data.toList ++ [34])).toArray⟩) W := B
  have hb := Lib.hid (balloc (b0 w) (.cells #[.int .i64 x.k, .string x.t, .int .i64 x.a] 39))
  by_cases h : x.k = 4
  · have q1 : (x.k == 4) = true := by rw [h]; rfl
    have hso := Lib.hid (show so x = 34 :: (x.t.data.toList ++ [34]) by unfold so; rw [if_pos h])
    clear hs h
    obtain ⟨k, t, a⟩ := x
    simp only at *
    generalize 34 :: (t.data.toList ++ [34]) = m at *
    generalize 34 :: t.data.toList = l at *
    go_enter Tryz.func31, Tryz.ntmps31
    go_wp2_with fail
    go_ret
    exact ⟨by rw [hso.out]; rfl, hb.out⟩
  · have q1 : (x.k == 4) = false := by rw [beq_eq_false_iff_ne]; exact h
    have hso := Lib.hid (show so x = x.t.data.toList by unfold so; rw [if_neg h])
    clear hs h A B
    obtain ⟨k, t, a⟩ := x
    simp only at *
    go_enter Tryz.func31, Tryz.ntmps31
    go_wp2_with fail
    go_ret
    exact ⟨by rw [hso.out]; rfl, hb.out⟩
end Go.Proofs.YtkfciilclfhabaaGreatDoor

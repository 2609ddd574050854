/-
  The reference's functions for integers, Add and Sub.
-/
import Derived.Test.YtgfigcjbfigmiaaDoorDec
namespace Go.Proofs.YtgfigcjbfigmiaaDoor
open Go.RowKit Go.Shelf

theorem refInRange_any (x : Int) (w : World) : Calls Tryd.prog 34 #[.int .i64 x] w fun e w' => e = .returned (.bool (rg x)) ∧ w = w' := by
  by_cases h1 : -1152921504606846976 ≤ x
  · by_cases h2 : x ≤ 1152921504606846976
    · have e : Hid (rg x = true) := (rg_iff x).2 ⟨h1, h2⟩
      have c1 : decide (-1152921504606846976 ≤ x) = true := by simpa using h1
      have c2 : decide (x ≤ 1152921504606846976) = true := by simpa using h2
      go_enter Tryd.func34, Tryd.ntmps34
      go_wp2
      go_ret
      exact ⟨by rw [e.out]; rfl, rfl⟩
    · have e : Hid (rg x = false) := (rg_no x).2 (by omega)
      have c1 : decide (-1152921504606846976 ≤ x) = true := by simpa using h1
      have c2 : decide (x ≤ 1152921504606846976) = false := by simp; omega
      go_enter Tryd.func34, Tryd.ntmps34
      go_wp2
      go_ret
      exact ⟨by rw [e.out]; rfl, rfl⟩
  · have e : Hid (rg x = false) := (rg_no x).2 (by omega)
    have c1 : decide (-1152921504606846976 ≤ x) = false := by simp; omega
    go_enter Tryd.func34, Tryd.ntmps34
    go_wp2
    go_ret
    exact ⟨by rw [e.out]; rfl, rfl⟩

theorem refKept_any (x : Int) (w : World) : Calls Tryd.prog 35 #[.int .i64 x] w fun e w' => e = .returned (.tuple #[.int .i64 (kx x), .bool (rg x)]) ∧ w = w' := by
  cases h : rg x
  · have E := Lib.hid (kx_no h)
    go_enter Tryd.func35, Tryd.ntmps35
    go_wp2_with (go_at_call 34; refine (refInRange_any _ _).mono ?_; rw [h]; rintro e w1 ⟨rfl, rfl⟩)
    go_ret2
    exact ⟨by rw [E.out]; rfl, rfl⟩
  · have E := Lib.hid (kx_yes h)
    go_enter Tryd.func35, Tryd.ntmps35
    go_wp2_with (go_at_call 34; refine (refInRange_any _ _).mono ?_; rw [h]; rintro e w1 ⟨rfl, rfl⟩)
    go_ret2
    exact ⟨by rw [E.out]; rfl, rfl⟩

theorem refFromInt_any (n : Int) (w : World) (n1 : -9223372036854775808 ≤ n) (n2 : n ≤ 9223372036854775807) :
    Calls Tryd.prog 12 #[.int .i64 n] w fun e w' => e = .returned (.tuple #[.int .i64 (kx (n * 1000000)), .bool (rg (n * 1000000))]) ∧ w = w' := by
  by_cases h1 : 1152921504606 < n
  · have e : rg (n * 1000000) = false := (rg_no _).2 (by omega)
    have E := Lib.hid (kx_no e)
    have E2 := Lib.hid e
    clear e
    have c1 : decide (1152921504606 < n) = true := by simpa using h1
    go_enter Tryd.func12, Tryd.ntmps12
    go_wp2
    go_ret2
    exact ⟨by rw [E.out, E2.out]; rfl, rfl⟩
  · by_cases h2 : n < -1152921504606
    · have e : rg (n * 1000000) = false := (rg_no _).2 (by omega)
      have E := Lib.hid (kx_no e)
      have E2 := Lib.hid e
      clear e
      have c1 : decide (1152921504606 < n) = false := by simp; omega
      have c2 : decide (n < -1152921504606) = true := by simp; omega
      go_enter Tryd.func12, Tryd.ntmps12
      go_wp2
      go_ret2
      exact ⟨by rw [E.out, E2.out]; rfl, rfl⟩
    · have e : rg (n * 1000000) = true := (rg_iff _).2 (by omega)
      have E := Lib.hid (kx_yes e)
      have E2 := Lib.hid e
      clear e
      have c1 : decide (1152921504606 < n) = false := by simp; omega
      have c2 : decide (n < -1152921504606) = false := by simp; omega
      go_enter Tryd.func12, Tryd.ntmps12
      go_wp2
      go_ret2
      exact ⟨by rw [E.out, E2.out]; rfl, rfl⟩

theorem refAdd_any (a b : Int) (w : World) :
    Calls Tryd.prog 17 #[.int .i64 a, .int .i64 b] w fun e w' => e = .returned (.tuple #[.int .i64 (adX a b), .bool (adK a b)]) ∧ w = w' := by
  cases ha : rg a
  · obtain ⟨e1, _, _, _, e5, _⟩ := out_all (a := a) (b := b) (.inl ha)
    have E1 := Lib.hid e1; have E5 := Lib.hid e5
    clear e1 e5
    go_enter Tryd.func17, Tryd.ntmps17
    go_wp2_with (go_at_call 34; refine (refInRange_any _ _).mono ?_; rw [ha]; rintro e w1 ⟨rfl, rfl⟩)
    go_ret2
    exact ⟨by rw [E1.out, E5.out]; rfl, rfl⟩
  · cases hb : rg b
    · obtain ⟨e1, _, _, _, e5, _⟩ := out_all (a := a) (b := b) (.inr hb)
      have E1 := Lib.hid e1; have E5 := Lib.hid e5
      clear e1 e5
      go_enter Tryd.func17, Tryd.ntmps17
      go_wp2_with (go_at_call 34; refine (refInRange_any _ _).mono ?_; (first | rw [ha] | rw [hb]); rintro e w1 ⟨rfl, rfl⟩)
      go_ret2
      exact ⟨by rw [E1.out, E5.out]; rfl, rfl⟩
    · have E1 := Lib.hid (adK_in ha hb); have E5 := Lib.hid (adX_in ha hb)
      obtain ⟨ra1, ra2⟩ := (rg_iff a).1 ha
      obtain ⟨rb1, rb2⟩ := (rg_iff b).1 hb
      go_enter Tryd.func17, Tryd.ntmps17
      go_wp2_with (first
        | (go_at_call 34; refine (refInRange_any _ _).mono ?_; (first | rw [ha] | rw [hb]); rintro e w1 ⟨rfl, rfl⟩)
        | (go_at_call 35; refine (refKept_any (a + b) _).mono ?_; rintro e w1 ⟨rfl, rfl⟩))
      go_ret2
      exact ⟨by rw [E1.out, E5.out]; rfl, rfl⟩

theorem refSub_any (a b : Int) (w : World) :
    Calls Tryd.prog 19 #[.int .i64 a, .int .i64 b] w fun e w' => e = .returned (.tuple #[.int .i64 (suX a b), .bool (suK a b)]) ∧ w = w' := by
  cases ha : rg a
  · obtain ⟨_, e1, _, _, _, e5, _⟩ := out_all (a := a) (b := b) (.inl ha)
    have E1 := Lib.hid e1; have E5 := Lib.hid e5
    clear e1 e5
    go_enter Tryd.func19, Tryd.ntmps19
    go_wp2_with (go_at_call 34; refine (refInRange_any _ _).mono ?_; rw [ha]; rintro e w1 ⟨rfl, rfl⟩)
    go_ret2
    exact ⟨by rw [E1.out, E5.out]; rfl, rfl⟩
  · cases hb : rg b
    · obtain ⟨_, e1, _, _, _, e5, _⟩ := out_all (a := a) (b := b) (.inr hb)
      have E1 := Lib.hid e1; have E5 := Lib.hid e5
      clear e1 e5
      go_enter Tryd.func19, Tryd.ntmps19
      go_wp2_with (go_at_call 34; refine (refInRange_any _ _).mono ?_; (first | rw [ha] | rw [hb]); rintro e w1 ⟨rfl, rfl⟩)
      go_ret2
      exact ⟨by rw [E1.out, E5.out]; rfl, rfl⟩
    · have E1 := Lib.hid (suK_in ha hb); have E5 := Lib.hid (suX_in ha hb)
      obtain ⟨ra1, ra2⟩ := (rg_iff a).1 ha
      obtain ⟨rb1, rb2⟩ := (rg_iff b).1 hb
      go_enter Tryd.func19, Tryd.ntmps19
      go_wp2_with (first
        | (go_at_call 34; refine (refInRange_any _ _).mono ?_; (first | rw [ha] | rw [hb]); rintro e w1 ⟨rfl, rfl⟩)
        | (go_at_call 35; refine (refKept_any (a - b) _).mono ?_; rintro e w1 ⟨rfl, rfl⟩))
      go_ret2
      exact ⟨by rw [E1.out, E5.out]; rfl, rfl⟩
end Go.Proofs.YtgfigcjbfigmiaaDoor

/-
  The contracts of package decimal's functions over numbers: what each answers; nothing that was there has changed.
-/
import Derived.Test.YtgfigcjbfigmiaaDoorBase
import Derived.Test.YtgfigcjbfigmiaaDoorArith
namespace Go.Proofs.YtgfigcjbfigmiaaDoor
open Go.RowKit Go.Shelf

theorem inRange_any (x : Int) (w : World) : Calls Tryd.prog 32 #[.int .i64 x] w fun e w' => e = .returned (.bool (rg x)) ∧ w = w' := by
  by_cases h1 : -1152921504606846976 ≤ x
  · by_cases h2 : x ≤ 1152921504606846976
    · have e : Hid (rg x = true) := (rg_iff x).2 ⟨h1, h2⟩
      have c1 : decide (-1152921504606846976 ≤ x) = true := by simpa using h1
      have c2 : decide (x ≤ 1152921504606846976) = true := by simpa using h2
      go_enter Tryd.func32, Tryd.ntmps32
      go_wp2
      go_ret
      exact ⟨by rw [e.out]; rfl, rfl⟩
    · have e : Hid (rg x = false) := (rg_no x).2 (by omega)
      have c1 : decide (-1152921504606846976 ≤ x) = true := by simpa using h1
      have c2 : decide (x ≤ 1152921504606846976) = false := by simp; omega
      go_enter Tryd.func32, Tryd.ntmps32
      go_wp2
      go_ret
      exact ⟨by rw [e.out]; rfl, rfl⟩
  · have e : Hid (rg x = false) := (rg_no x).2 (by omega)
    have c1 : decide (-1152921504606846976 ≤ x) = false := by simp; omega
    go_enter Tryd.func32, Tryd.ntmps32
    go_wp2
    go_ret
    exact ⟨by rw [e.out]; rfl, rfl⟩

theorem checked_any {a : Int} (ia : In a) (w : World) :
    Calls Tryd.prog 30 #[.agg #[.int .i64 (hi a), .int .u64 (lo a)]] w fun e w' => e = .returned (.tuple #[.int .i64 (kx a), .bool (rg a)]) ∧ Below w.heap.size w w' := by
  have CD := Lib.hid (divide_at (a := a) (d := 1) ia (by decide) (by decide) (dv_one a) (dvOk_one a))
  go_enter Tryd.func30, Tryd.ntmps30
  go_wp2_with (go_at_call 31; refine (CD.out _).mono ?_; rintro e w1 ⟨rfl, hb⟩)
  go_ret2
  exact ⟨rfl, bnext (balloc (b0 w) _) hb⟩

theorem fromInt_any (n : Int) (w : World) (h1 : -9223372036854775808 ≤ n) (h2 : n ≤ 9223372036854775807) :
    Calls Tryd.prog 11 #[.int .i64 n] w fun e w' => e = .returned (.tuple #[.int .i64 (kx (n * 1000000)), .bool (rg (n * 1000000))]) ∧ Below w.heap.size w w' := by
  have ia : In (n * 1000000) := mul_in h1 h2 (by decide) (by decide)
  go_enter Tryd.func11, Tryd.ntmps11
  go_wp2_with fail
  refine (mul_u n 1000000 _ h1 h2 (by decide) (by decide)).mono ?_
  rintro e w1 ⟨rfl, hb⟩
  go_wp2_with fail
  refine (checked_any ia _).mono ?_
  rintro e w2 ⟨rfl, hb2⟩
  go_wp2_with fail
  go_ret2
  exact ⟨rfl, bnext hb hb2⟩

theorem toInt_any (x : Int) (w : World) (h1 : -9223372036854775808 ≤ x) (h2 : x ≤ 9223372036854775807) :
    Calls Tryd.prog 14 #[.int .i64 x] w fun e w' => e = .returned (.int .i64 (ti x)) ∧ Below w.heap.size w w' := by
  have ia : In x := by unfold In; omega
  have CD := Lib.hid (divide_at (a := x) (d := 1000000) (r := ti x) ia (by decide) (by decide) rfl rfl)
  go_enter Tryd.func14, Tryd.ntmps14
  go_wp2_with fail
  refine (of_u x _ h1 h2).mono ?_
  rintro e w1 ⟨rfl, hb⟩
  go_wp2_with fail
  refine (CD.out _).mono ?_
  rintro e w2 ⟨rfl, hb2⟩
  go_wp2_with fail
  go_ret
  exact ⟨rfl, bnext hb hb2⟩

theorem add_dec (a b : Int) (w : World) :
    Calls Tryd.prog 16 #[.int .i64 a, .int .i64 b] w fun e w' => e = .returned (.tuple #[.int .i64 (adX a b), .bool (adK a b)]) ∧ Below w.heap.size w w' := by
  cases ha : rg a
  · obtain ⟨e1, _, _, _, e5, _⟩ := out_all (a := a) (b := b) (.inl ha)
    have E1 := Lib.hid e1; have E5 := Lib.hid e5
    clear e1 e5
    go_enter Tryd.func16, Tryd.ntmps16
    go_wp2_with (go_at_call 32; refine (inRange_any _ _).mono ?_; rw [ha]; rintro e w1 ⟨rfl, rfl⟩)
    go_ret2
    exact ⟨by rw [E1.out, E5.out]; rfl, b0 _⟩
  · cases hb : rg b
    · obtain ⟨e1, _, _, _, e5, _⟩ := out_all (a := a) (b := b) (.inr hb)
      have E1 := Lib.hid e1; have E5 := Lib.hid e5
      clear e1 e5
      go_enter Tryd.func16, Tryd.ntmps16
      go_wp2_with (go_at_call 32; refine (inRange_any _ _).mono ?_; (first | rw [ha] | rw [hb]); rintro e w1 ⟨rfl, rfl⟩)
      go_ret2
      exact ⟨by rw [E1.out, E5.out]; rfl, b0 _⟩
    · have E1 := Lib.hid (adK_in ha hb); have E5 := Lib.hid (adX_in ha hb)
      have ra := (rg_iff a).1 ha
      have rb := (rg_iff b).1 hb
      obtain ⟨ra1, ra2⟩ := ra
      obtain ⟨rb1, rb2⟩ := rb
      have ia : In (a + b) := by unfold In; omega
      go_enter Tryd.func16, Tryd.ntmps16
      go_wp2_with (first
        | (go_at_call 32; refine (inRange_any _ _).mono ?_; (first | rw [ha] | rw [hb]); rintro e w1 ⟨rfl, rfl⟩)
        | fail)
      refine (of_u a _ (by omega) (by omega)).mono ?_
      rintro e w1 ⟨rfl, k1⟩
      go_wp2_with fail
      refine (of_u b _ (by omega) (by omega)).mono ?_
      rintro e w2 ⟨rfl, k2⟩
      replace k2 := bnext k1 k2
      go_wp2_with fail
      refine (add_u a b _).mono ?_
      rintro e w3 ⟨rfl, k3⟩
      replace k3 := bnext k2 k3
      go_wp2_with fail
      refine (checked_any ia _).mono ?_
      rintro e w4 ⟨rfl, k4⟩
      replace k4 := bnext k3 k4
      go_wp2_with fail
      go_ret2
      exact ⟨by rw [E1.out, E5.out]; rfl, k4⟩

theorem sub_dec (a b : Int) (w : World) :
    Calls Tryd.prog 18 #[.int .i64 a, .int .i64 b] w fun e w' => e = .returned (.tuple #[.int .i64 (suX a b), .bool (suK a b)]) ∧ Below w.heap.size w w' := by
  cases ha : rg a
  · obtain ⟨_, e1, _, _, _, e5, _⟩ := out_all (a := a) (b := b) (.inl ha)
    have E1 := Lib.hid e1; have E5 := Lib.hid e5
    clear e1 e5
    go_enter Tryd.func18, Tryd.ntmps18
    go_wp2_with (go_at_call 32; refine (inRange_any _ _).mono ?_; rw [ha]; rintro e w1 ⟨rfl, rfl⟩)
    go_ret2
    exact ⟨by rw [E1.out, E5.out]; rfl, b0 _⟩
  · cases hb : rg b
    · obtain ⟨_, e1, _, _, _, e5, _⟩ := out_all (a := a) (b := b) (.inr hb)
      have E1 := Lib.hid e1; have E5 := Lib.hid e5
      clear e1 e5
      go_enter Tryd.func18, Tryd.ntmps18
      go_wp2_with (go_at_call 32; refine (inRange_any _ _).mono ?_; (first | rw [ha] | rw [hb]); rintro e w1 ⟨rfl, rfl⟩)
      go_ret2
      exact ⟨by rw [E1.out, E5.out]; rfl, b0 _⟩
    · have E1 := Lib.hid (suK_in ha hb); have E5 := Lib.hid (suX_in ha hb)
      have ra := (rg_iff a).1 ha
      have rb := (rg_iff b).1 hb
      obtain ⟨ra1, ra2⟩ := ra
      obtain ⟨rb1, rb2⟩ := rb
      have ia : In (a - b) := by unfold In; omega
      go_enter Tryd.func18, Tryd.ntmps18
      go_wp2_with (go_at_call 32; refine (inRange_any _ _).mono ?_; (first | rw [ha] | rw [hb]); rintro e w1 ⟨rfl, rfl⟩)
      refine (of_u a _ (by omega) (by omega)).mono ?_
      rintro e w1 ⟨rfl, k1⟩
      go_wp2_with fail
      refine (of_u b _ (by omega) (by omega)).mono ?_
      rintro e w2 ⟨rfl, k2⟩
      replace k2 := bnext k1 k2
      go_wp2_with fail
      refine (sub_u a b _).mono ?_
      rintro e w3 ⟨rfl, k3⟩
      replace k3 := bnext k2 k3
      go_wp2_with fail
      refine (checked_any ia _).mono ?_
      rintro e w4 ⟨rfl, k4⟩
      replace k4 := bnext k3 k4
      go_wp2_with fail
      go_ret2
      exact ⟨by rw [E1.out, E5.out]; rfl, k4⟩

theorem mul_dec (a b : Int) (w : World) :
    Calls Tryd.prog 20 #[.int .i64 a, .int .i64 b] w fun e w' => e = .returned (.tuple #[.int .i64 (muX a b), .bool (muK a b)]) ∧ Below w.heap.size w w' := by
  cases ha : rg a
  · obtain ⟨_, _, e1, _, _, _, e5, _⟩ := out_all (a := a) (b := b) (.inl ha)
    have E1 := Lib.hid e1; have E5 := Lib.hid e5
    clear e1 e5
    go_enter Tryd.func20, Tryd.ntmps20
    go_wp2_with (go_at_call 32; refine (inRange_any _ _).mono ?_; rw [ha]; rintro e w1 ⟨rfl, rfl⟩)
    go_ret2
    exact ⟨by rw [E1.out, E5.out]; rfl, b0 _⟩
  · cases hb : rg b
    · obtain ⟨_, _, e1, _, _, _, e5, _⟩ := out_all (a := a) (b := b) (.inr hb)
      have E1 := Lib.hid e1; have E5 := Lib.hid e5
      clear e1 e5
      go_enter Tryd.func20, Tryd.ntmps20
      go_wp2_with (go_at_call 32; refine (inRange_any _ _).mono ?_; (first | rw [ha] | rw [hb]); rintro e w1 ⟨rfl, rfl⟩)
      go_ret2
      exact ⟨by rw [E1.out, E5.out]; rfl, b0 _⟩
    · have ra := (rg_iff a).1 ha
      have rb := (rg_iff b).1 hb
      obtain ⟨ra1, ra2⟩ := ra
      obtain ⟨rb1, rb2⟩ := rb
      have ia : In (a * b) := mul_in (by omega) (by omega) (by omega) (by omega)
      have CD := Lib.hid (divide_at (a := a * b) (d := 1000000) ia (by decide) (by decide) (muX_in ha hb).symm (muK_in ha hb).symm)
      go_enter Tryd.func20, Tryd.ntmps20
      go_wp2_with (go_at_call 32; refine (inRange_any _ _).mono ?_; (first | rw [ha] | rw [hb]); rintro e w1 ⟨rfl, rfl⟩)
      refine (mul_u a b _ (by omega) (by omega) (by omega) (by omega)).mono ?_
      rintro e w1 ⟨rfl, k1⟩
      go_wp2_with fail
      refine (CD.out _).mono ?_
      rintro e w2 ⟨rfl, k2⟩
      replace k2 := bnext k1 k2
      go_wp2_with fail
      go_ret2
      exact ⟨rfl, k2⟩

theorem div_dec (a b : Int) (w : World) :
    Calls Tryd.prog 22 #[.int .i64 a, .int .i64 b] w fun e w' => e = .returned (.tuple #[.int .i64 (diX a b), .bool (diK a b)]) ∧ Below w.heap.size w w' := by
  cases ha : rg a
  · obtain ⟨_, _, _, e1, _, _, _, e5⟩ := out_all (a := a) (b := b) (.inl ha)
    have E1 := Lib.hid e1; have E5 := Lib.hid e5
    clear e1 e5
    go_enter Tryd.func22, Tryd.ntmps22
    go_wp2_with (go_at_call 32; refine (inRange_any _ _).mono ?_; rw [ha]; rintro e w1 ⟨rfl, rfl⟩)
    go_ret2
    exact ⟨by rw [E1.out, E5.out]; rfl, b0 _⟩
  · cases hb : rg b
    · obtain ⟨_, _, _, e1, _, _, _, e5⟩ := out_all (a := a) (b := b) (.inr hb)
      have E1 := Lib.hid e1; have E5 := Lib.hid e5
      clear e1 e5
      go_enter Tryd.func22, Tryd.ntmps22
      go_wp2_with (go_at_call 32; refine (inRange_any _ _).mono ?_; (first | rw [ha] | rw [hb]); rintro e w1 ⟨rfl, rfl⟩)
      go_ret2
      exact ⟨by rw [E1.out, E5.out]; rfl, b0 _⟩
    · have ra := (rg_iff a).1 ha
      have rb := (rg_iff b).1 hb
      obtain ⟨ra1, ra2⟩ := ra
      obtain ⟨rb1, rb2⟩ := rb
      have ia : In (a * 1000000) := mul_in (by omega) (by omega) (by omega) (by omega)
      have CD := Lib.hid (divide_at (a := a * 1000000) (d := b) ia (by omega) (by omega) (diX_in ha hb).symm (diK_in ha hb).symm)
      go_enter Tryd.func22, Tryd.ntmps22
      go_wp2_with (go_at_call 32; refine (inRange_any _ _).mono ?_; (first | rw [ha] | rw [hb]); rintro e w1 ⟨rfl, rfl⟩)
      refine (mul_u a 1000000 _ (by omega) (by omega) (by decide) (by decide)).mono ?_
      rintro e w1 ⟨rfl, k1⟩
      go_wp2_with fail
      refine (CD.out _).mono ?_
      rintro e w2 ⟨rfl, k2⟩
      replace k2 := bnext k1 k2
      go_wp2_with fail
      go_ret2
      exact ⟨rfl, k2⟩
end Go.Proofs.YtgfigcjbfigmiaaDoor

/-
  The statement DecimalOrders holds for all ints. Conditions: the tables that its row lists hold what the text of the program lays in them; the card ties them to the pruned copy of the program.
-/
import Derived.Test.YtgfigcjbfigmiaaDoorLift
import Derived.Test.YtgfigcjbfigmiaaDoorFacts
namespace Go.Proofs.YtgfigcjbfigmiaaDoor.orders
open Go.ChangeShapes Go.WideShapes Go.ChangeAt Go.RowKit Go.Joins

set_option maxRecDepth 100000 in
set_option maxHeartbeats 4000000 in
theorem core1 (a b l h c : Int) (a1 : -9223372036854775808 ≤ a) (a2 : a ≤ 9223372036854775807) (b1 : -9223372036854775808 ≤ b) (b2 : b ≤ 9223372036854775807)
    (hl : min a b = l) (hh : max a b = h) (hc : c < 0) (w : World) (T : Tabs w) :
    Calls Tryd.prog 8 #[.int .i64 a, .int .i64 b, .int .i64 c] w fun e w' => e = .returned (.bool true) ∧ Below w.heap.size w w' := by
  have k0 := b0 w
  have hlh : l ≤ h := by omega
  have hl1 : -9223372036854775808 ≤ l := by omega
  have hh2 : h ≤ 9223372036854775807 := by omega
  have hl2 : l ≤ 9223372036854775807 := by omega
  have hh1 : -9223372036854775808 ≤ h := by omega
  obtain ⟨t1, ht1⟩ : ∃ t, ti l = t := ⟨_, rfl⟩
  obtain ⟨t2, ht2⟩ : ∃ t, ti h = t := ⟨_, rfl⟩
  have htt : t1 ≤ t2 := by rw [← ht1, ← ht2]; exact ti_mono hlh hl1 hh2
  have dt : decide (t2 < t1) = false := by simp; omega
  obtain ⟨x1, hx1⟩ : ∃ x, adX l c = x := ⟨_, rfl⟩
  obtain ⟨p1, hp1⟩ : ∃ p, adK l c = p := ⟨_, rfl⟩
  obtain ⟨x2, hx2⟩ : ∃ x, adX h c = x := ⟨_, rfl⟩
  obtain ⟨p2, hp2⟩ : ∃ p, adK h c = p := ⟨_, rfl⟩
  obtain ⟨x3, hx3⟩ : ∃ x, muX l c = x := ⟨_, rfl⟩
  obtain ⟨p3, hp3⟩ : ∃ p, muK l c = p := ⟨_, rfl⟩
  obtain ⟨x4, hx4⟩ : ∃ x, muX h c = x := ⟨_, rfl⟩
  obtain ⟨p4, hp4⟩ : ∃ p, muK h c = p := ⟨_, rfl⟩
  obtain ⟨x5, hx5⟩ : ∃ x, diX l c = x := ⟨_, rfl⟩
  obtain ⟨p5, hp5⟩ : ∃ p, diK l c = p := ⟨_, rfl⟩
  obtain ⟨x6, hx6⟩ : ∃ x, diX h c = x := ⟨_, rfl⟩
  obtain ⟨p6, hp6⟩ : ∃ p, diK h c = p := ⟨_, rfl⟩
  have HA : Hid (p1 = false ∨ (p1 = true ∧ p2 = false) ∨ (p1 = true ∧ p2 = true ∧ x1 ≤ x2)) := by
    unfold Hid
    cases g : p1
    · exact .inl rfl
    · cases g' : p2
      · exact .inr (.inl ⟨rfl, rfl⟩)
      · refine .inr (.inr ⟨rfl, rfl, ?_⟩)
        rw [← hx1, ← hx2]
        exact adX_mono hlh (hp1.trans g) (hp2.trans g')
  have dc : decide (c < 0) = true := by simpa using hc
  clear hlh htt
  go_enter Tryd.func8, Tryd.ntmps8
  go_wp2_with fail
  refine (example_any _ T).mono ?_
  rintro e w1 ⟨rfl, hb⟩
  have k1 := bnext k0 hb
  clear hb k0
  go_wp2_with fail
  refine (add_dec l c _).mono ?_
  rw [hx1, hp1]
  rintro e w2 ⟨rfl, hb⟩
  have k2 := bnext k1 hb
  clear hb k1
  go_wp2_with fail
  refine (add_dec h c _).mono ?_
  rw [hx2, hp2]
  rintro e w3 ⟨rfl, hb⟩
  have k3 := bnext k2 hb
  clear hb k2
  rcases HA.out with gp1 | ⟨gp1, gp2⟩ | ⟨gp1, gp2, gx1⟩
  · rw [gp1]
    go_wp2_with fail
    refine (toInt_any l _ (by omega) (by omega)).mono ?_
    rw [ht1]
    rintro e w4 ⟨rfl, hb⟩
    have k4 := bnext k3 hb
    clear hb k3
    go_wp2_with fail
    refine (toInt_any h _ (by omega) (by omega)).mono ?_
    rw [ht2]
    rintro e w5 ⟨rfl, hb⟩
    have k5 := bnext k4 hb
    clear hb k4
    go_wp2_with fail
    go_ret
    exact ⟨rfl, k5⟩
  · rw [gp1, gp2]
    go_wp2_with fail
    refine (toInt_any l _ (by omega) (by omega)).mono ?_
    rw [ht1]
    rintro e w4 ⟨rfl, hb⟩
    have k4 := bnext k3 hb
    clear hb k3
    go_wp2_with fail
    refine (toInt_any h _ (by omega) (by omega)).mono ?_
    rw [ht2]
    rintro e w5 ⟨rfl, hb⟩
    have k5 := bnext k4 hb
    clear hb k4
    go_wp2_with fail
    go_ret
    exact ⟨rfl, k5⟩
  · rw [gp1, gp2]
    have dx1 : decide (x2 < x1) = false := by simp; omega
    go_wp2_with fail
    refine (toInt_any l _ (by omega) (by omega)).mono ?_
    rw [ht1]
    rintro e w4 ⟨rfl, hb⟩
    have k4 := bnext k3 hb
    clear hb k3
    go_wp2_with fail
    refine (toInt_any h _ (by omega) (by omega)).mono ?_
    rw [ht2]
    rintro e w5 ⟨rfl, hb⟩
    have k5 := bnext k4 hb
    clear hb k4
    go_wp2_with fail
    go_ret
    exact ⟨rfl, k5⟩

set_option maxRecDepth 100000 in
set_option maxHeartbeats 8000000 in
theorem core2 (a b l h c : Int) (a1 : -9223372036854775808 ≤ a) (a2 : a ≤ 9223372036854775807) (b1 : -9223372036854775808 ≤ b) (b2 : b ≤ 9223372036854775807)
    (hl : min a b = l) (hh : max a b = h) (hc : ¬ c < 0) (w : World) (T : Tabs w) :
    Calls Tryd.prog 8 #[.int .i64 a, .int .i64 b, .int .i64 c] w fun e w' => e = .returned (.bool true) ∧ Below w.heap.size w w' := by
  have k0 := b0 w
  have hlh : l ≤ h := by omega
  have hl1 : -9223372036854775808 ≤ l := by omega
  have hh2 : h ≤ 9223372036854775807 := by omega
  have hl2 : l ≤ 9223372036854775807 := by omega
  have hh1 : -9223372036854775808 ≤ h := by omega
  obtain ⟨t1, ht1⟩ : ∃ t, ti l = t := ⟨_, rfl⟩
  obtain ⟨t2, ht2⟩ : ∃ t, ti h = t := ⟨_, rfl⟩
  have htt : t1 ≤ t2 := by rw [← ht1, ← ht2]; exact ti_mono hlh hl1 hh2
  have dt : decide (t2 < t1) = false := by simp; omega
  obtain ⟨x1, hx1⟩ : ∃ x, adX l c = x := ⟨_, rfl⟩
  obtain ⟨p1, hp1⟩ : ∃ p, adK l c = p := ⟨_, rfl⟩
  obtain ⟨x2, hx2⟩ : ∃ x, adX h c = x := ⟨_, rfl⟩
  obtain ⟨p2, hp2⟩ : ∃ p, adK h c = p := ⟨_, rfl⟩
  obtain ⟨x3, hx3⟩ : ∃ x, muX l c = x := ⟨_, rfl⟩
  obtain ⟨p3, hp3⟩ : ∃ p, muK l c = p := ⟨_, rfl⟩
  obtain ⟨x4, hx4⟩ : ∃ x, muX h c = x := ⟨_, rfl⟩
  obtain ⟨p4, hp4⟩ : ∃ p, muK h c = p := ⟨_, rfl⟩
  obtain ⟨x5, hx5⟩ : ∃ x, diX l c = x := ⟨_, rfl⟩
  obtain ⟨p5, hp5⟩ : ∃ p, diK l c = p := ⟨_, rfl⟩
  obtain ⟨x6, hx6⟩ : ∃ x, diX h c = x := ⟨_, rfl⟩
  obtain ⟨p6, hp6⟩ : ∃ p, diK h c = p := ⟨_, rfl⟩
  have HA : Hid (p1 = false ∨ (p1 = true ∧ p2 = false) ∨ (p1 = true ∧ p2 = true ∧ x1 ≤ x2)) := by
    unfold Hid
    cases g : p1
    · exact .inl rfl
    · cases g' : p2
      · exact .inr (.inl ⟨rfl, rfl⟩)
      · refine .inr (.inr ⟨rfl, rfl, ?_⟩)
        rw [← hx1, ← hx2]
        exact adX_mono hlh (hp1.trans g) (hp2.trans g')
  have HM : Hid (p3 = false ∨ (p3 = true ∧ p4 = false) ∨ (p3 = true ∧ p4 = true ∧ x3 ≤ x4)) := by
    unfold Hid
    cases g : p3
    · exact .inl rfl
    · cases g' : p4
      · exact .inr (.inl ⟨rfl, rfl⟩)
      · refine .inr (.inr ⟨rfl, rfl, ?_⟩)
        rw [← hx3, ← hx4]
        exact muX_mono hlh (by omega) (hp3.trans g) (hp4.trans g')
  have HD : Hid (p5 = false ∨ (p5 = true ∧ p6 = false) ∨ (p5 = true ∧ p6 = true ∧ x5 ≤ x6)) := by
    unfold Hid
    cases g : p5
    · exact .inl rfl
    · cases g' : p6
      · exact .inr (.inl ⟨rfl, rfl⟩)
      · refine .inr (.inr ⟨rfl, rfl, ?_⟩)
        rw [← hx5, ← hx6]
        exact diX_mono hlh (by omega) (hp5.trans g) (hp6.trans g')
  have dc : decide (c < 0) = false := by simp; omega
  clear hlh htt
  go_enter Tryd.func8, Tryd.ntmps8
  go_wp2_with fail
  refine (example_any _ T).mono ?_
  rintro e w1 ⟨rfl, hb⟩
  have k1 := bnext k0 hb
  clear hb k0
  go_wp2_with fail
  refine (add_dec l c _).mono ?_
  rw [hx1, hp1]
  rintro e w2 ⟨rfl, hb⟩
  have k2 := bnext k1 hb
  clear hb k1
  go_wp2_with fail
  refine (add_dec h c _).mono ?_
  rw [hx2, hp2]
  rintro e w3 ⟨rfl, hb⟩
  have k3 := bnext k2 hb
  clear hb k2
  rcases HA.out with gp1 | ⟨gp1, gp2⟩ | ⟨gp1, gp2, gx1⟩
  · rw [gp1]
    go_wp2_with fail
    refine (toInt_any l _ (by omega) (by omega)).mono ?_
    rw [ht1]
    rintro e w4 ⟨rfl, hb⟩
    have k4 := bnext k3 hb
    clear hb k3
    go_wp2_with fail
    refine (toInt_any h _ (by omega) (by omega)).mono ?_
    rw [ht2]
    rintro e w5 ⟨rfl, hb⟩
    have k5 := bnext k4 hb
    clear hb k4
    go_wp2_with fail
    refine (mul_dec l c _).mono ?_
    rw [hx3, hp3]
    rintro e w6 ⟨rfl, hb⟩
    have k6 := bnext k5 hb
    clear hb k5
    go_wp2_with fail
    refine (mul_dec h c _).mono ?_
    rw [hx4, hp4]
    rintro e w7 ⟨rfl, hb⟩
    have k7 := bnext k6 hb
    clear hb k6
    rcases HM.out with gp3 | ⟨gp3, gp4⟩ | ⟨gp3, gp4, gx3⟩
    · rw [gp3]
      go_wp2_with fail
      refine (div_dec l c _).mono ?_
      rw [hx5, hp5]
      rintro e w8 ⟨rfl, hb⟩
      have k8 := bnext k7 hb
      clear hb k7
      go_wp2_with fail
      refine (div_dec h c _).mono ?_
      rw [hx6, hp6]
      rintro e w9 ⟨rfl, hb⟩
      have k9 := bnext k8 hb
      clear hb k8
      rcases HD.out with gp5 | ⟨gp5, gp6⟩ | ⟨gp5, gp6, gx5⟩
      · rw [gp5]
        go_wp2_with fail
        go_ret
        exact ⟨rfl, k9⟩
      · rw [gp5, gp6]
        go_wp2_with fail
        go_ret
        exact ⟨rfl, k9⟩
      · rw [gp5, gp6]
        have dx5 : decide (x5 ≤ x6) = true := by simpa using gx5
        go_wp2_with fail
        go_ret
        exact ⟨rfl, k9⟩
    · rw [gp3, gp4]
      go_wp2_with fail
      refine (div_dec l c _).mono ?_
      rw [hx5, hp5]
      rintro e w8 ⟨rfl, hb⟩
      have k8 := bnext k7 hb
      clear hb k7
      go_wp2_with fail
      refine (div_dec h c _).mono ?_
      rw [hx6, hp6]
      rintro e w9 ⟨rfl, hb⟩
      have k9 := bnext k8 hb
      clear hb k8
      rcases HD.out with gp5 | ⟨gp5, gp6⟩ | ⟨gp5, gp6, gx5⟩
      · rw [gp5]
        go_wp2_with fail
        go_ret
        exact ⟨rfl, k9⟩
      · rw [gp5, gp6]
        go_wp2_with fail
        go_ret
        exact ⟨rfl, k9⟩
      · rw [gp5, gp6]
        have dx5 : decide (x5 ≤ x6) = true := by simpa using gx5
        go_wp2_with fail
        go_ret
        exact ⟨rfl, k9⟩
    · rw [gp3, gp4]
      have dx3 : decide (x4 < x3) = false := by simp; omega
      go_wp2_with fail
      refine (div_dec l c _).mono ?_
      rw [hx5, hp5]
      rintro e w8 ⟨rfl, hb⟩
      have k8 := bnext k7 hb
      clear hb k7
      go_wp2_with fail
      refine (div_dec h c _).mono ?_
      rw [hx6, hp6]
      rintro e w9 ⟨rfl, hb⟩
      have k9 := bnext k8 hb
      clear hb k8
      rcases HD.out with gp5 | ⟨gp5, gp6⟩ | ⟨gp5, gp6, gx5⟩
      · rw [gp5]
        go_wp2_with fail
        go_ret
        exact ⟨rfl, k9⟩
      · rw [gp5, gp6]
        go_wp2_with fail
        go_ret
        exact ⟨rfl, k9⟩
      · rw [gp5, gp6]
        have dx5 : decide (x5 ≤ x6) = true := by simpa using gx5
        go_wp2_with fail
        go_ret
        exact ⟨rfl, k9⟩
  · rw [gp1, gp2]
    go_wp2_with fail
    refine (toInt_any l _ (by omega) (by omega)).mono ?_
    rw [ht1]
    rintro e w4 ⟨rfl, hb⟩
    have k4 := bnext k3 hb
    clear hb k3
    go_wp2_with fail
    refine (toInt_any h _ (by omega) (by omega)).mono ?_
    rw [ht2]
    rintro e w5 ⟨rfl, hb⟩
    have k5 := bnext k4 hb
    clear hb k4
    go_wp2_with fail
    refine (mul_dec l c _).mono ?_
    rw [hx3, hp3]
    rintro e w6 ⟨rfl, hb⟩
    have k6 := bnext k5 hb
    clear hb k5
    go_wp2_with fail
    refine (mul_dec h c _).mono ?_
    rw [hx4, hp4]
    rintro e w7 ⟨rfl, hb⟩
    have k7 := bnext k6 hb
    clear hb k6
    rcases HM.out with gp3 | ⟨gp3, gp4⟩ | ⟨gp3, gp4, gx3⟩
    · rw [gp3]
      go_wp2_with fail
      refine (div_dec l c _).mono ?_
      rw [hx5, hp5]
      rintro e w8 ⟨rfl, hb⟩
      have k8 := bnext k7 hb
      clear hb k7
      go_wp2_with fail
      refine (div_dec h c _).mono ?_
      rw [hx6, hp6]
      rintro e w9 ⟨rfl, hb⟩
      have k9 := bnext k8 hb
      clear hb k8
      rcases HD.out with gp5 | ⟨gp5, gp6⟩ | ⟨gp5, gp6, gx5⟩
      · rw [gp5]
        go_wp2_with fail
        go_ret
        exact ⟨rfl, k9⟩
      · rw [gp5, gp6]
        go_wp2_with fail
        go_ret
        exact ⟨rfl, k9⟩
      · rw [gp5, gp6]
        have dx5 : decide (x5 ≤ x6) = true := by simpa using gx5
        go_wp2_with fail
        go_ret
        exact ⟨rfl, k9⟩
    · rw [gp3, gp4]
      go_wp2_with fail
      refine (div_dec l c _).mono ?_
      rw [hx5, hp5]
      rintro e w8 ⟨rfl, hb⟩
      have k8 := bnext k7 hb
      clear hb k7
      go_wp2_with fail
      refine (div_dec h c _).mono ?_
      rw [hx6, hp6]
      rintro e w9 ⟨rfl, hb⟩
      have k9 := bnext k8 hb
      clear hb k8
      rcases HD.out with gp5 | ⟨gp5, gp6⟩ | ⟨gp5, gp6, gx5⟩
      · rw [gp5]
        go_wp2_with fail
        go_ret
        exact ⟨rfl, k9⟩
      · rw [gp5, gp6]
        go_wp2_with fail
        go_ret
        exact ⟨rfl, k9⟩
      · rw [gp5, gp6]
        have dx5 : decide (x5 ≤ x6) = true := by simpa using gx5
        go_wp2_with fail
        go_ret
        exact ⟨rfl, k9⟩
    · rw [gp3, gp4]
      have dx3 : decide (x4 < x3) = false := by simp; omega
      go_wp2_with fail
      refine (div_dec l c _).mono ?_
      rw [hx5, hp5]
      rintro e w8 ⟨rfl, hb⟩
      have k8 := bnext k7 hb
      clear hb k7
      go_wp2_with fail
      refine (div_dec h c _).mono ?_
      rw [hx6, hp6]
      rintro e w9 ⟨rfl, hb⟩
      have k9 := bnext k8 hb
      clear hb k8
      rcases HD.out with gp5 | ⟨gp5, gp6⟩ | ⟨gp5, gp6, gx5⟩
      · rw [gp5]
        go_wp2_with fail
        go_ret
        exact ⟨rfl, k9⟩
      · rw [gp5, gp6]
        go_wp2_with fail
        go_ret
        exact ⟨rfl, k9⟩
      · rw [gp5, gp6]
        have dx5 : decide (x5 ≤ x6) = true := by simpa using gx5
        go_wp2_with fail
        go_ret
        exact ⟨rfl, k9⟩
  · rw [gp1, gp2]
    have dx1 : decide (x2 < x1) = false := by simp; omega
    go_wp2_with fail
    refine (toInt_any l _ (by omega) (by omega)).mono ?_
    rw [ht1]
    rintro e w4 ⟨rfl, hb⟩
    have k4 := bnext k3 hb
    clear hb k3
    go_wp2_with fail
    refine (toInt_any h _ (by omega) (by omega)).mono ?_
    rw [ht2]
    rintro e w5 ⟨rfl, hb⟩
    have k5 := bnext k4 hb
    clear hb k4
    go_wp2_with fail
    refine (mul_dec l c _).mono ?_
    rw [hx3, hp3]
    rintro e w6 ⟨rfl, hb⟩
    have k6 := bnext k5 hb
    clear hb k5
    go_wp2_with fail
    refine (mul_dec h c _).mono ?_
    rw [hx4, hp4]
    rintro e w7 ⟨rfl, hb⟩
    have k7 := bnext k6 hb
    clear hb k6
    rcases HM.out with gp3 | ⟨gp3, gp4⟩ | ⟨gp3, gp4, gx3⟩
    · rw [gp3]
      go_wp2_with fail
      refine (div_dec l c _).mono ?_
      rw [hx5, hp5]
      rintro e w8 ⟨rfl, hb⟩
      have k8 := bnext k7 hb
      clear hb k7
      go_wp2_with fail
      refine (div_dec h c _).mono ?_
      rw [hx6, hp6]
      rintro e w9 ⟨rfl, hb⟩
      have k9 := bnext k8 hb
      clear hb k8
      rcases HD.out with gp5 | ⟨gp5, gp6⟩ | ⟨gp5, gp6, gx5⟩
      · rw [gp5]
        go_wp2_with fail
        go_ret
        exact ⟨rfl, k9⟩
      · rw [gp5, gp6]
        go_wp2_with fail
        go_ret
        exact ⟨rfl, k9⟩
      · rw [gp5, gp6]
        have dx5 : decide (x5 ≤ x6) = true := by simpa using gx5
        go_wp2_with fail
        go_ret
        exact ⟨rfl, k9⟩
    · rw [gp3, gp4]
      go_wp2_with fail
      refine (div_dec l c _).mono ?_
      rw [hx5, hp5]
      rintro e w8 ⟨rfl, hb⟩
      have k8 := bnext k7 hb
      clear hb k7
      go_wp2_with fail
      refine (div_dec h c _).mono ?_
      rw [hx6, hp6]
      rintro e w9 ⟨rfl, hb⟩
      have k9 := bnext k8 hb
      clear hb k8
      rcases HD.out with gp5 | ⟨gp5, gp6⟩ | ⟨gp5, gp6, gx5⟩
      · rw [gp5]
        go_wp2_with fail
        go_ret
        exact ⟨rfl, k9⟩
      · rw [gp5, gp6]
        go_wp2_with fail
        go_ret
        exact ⟨rfl, k9⟩
      · rw [gp5, gp6]
        have dx5 : decide (x5 ≤ x6) = true := by simpa using gx5
        go_wp2_with fail
        go_ret
        exact ⟨rfl, k9⟩
    · rw [gp3, gp4]
      have dx3 : decide (x4 < x3) = false := by simp; omega
      go_wp2_with fail
      refine (div_dec l c _).mono ?_
      rw [hx5, hp5]
      rintro e w8 ⟨rfl, hb⟩
      have k8 := bnext k7 hb
      clear hb k7
      go_wp2_with fail
      refine (div_dec h c _).mono ?_
      rw [hx6, hp6]
      rintro e w9 ⟨rfl, hb⟩
      have k9 := bnext k8 hb
      clear hb k8
      rcases HD.out with gp5 | ⟨gp5, gp6⟩ | ⟨gp5, gp6, gx5⟩
      · rw [gp5]
        go_wp2_with fail
        go_ret
        exact ⟨rfl, k9⟩
      · rw [gp5, gp6]
        go_wp2_with fail
        go_ret
        exact ⟨rfl, k9⟩
      · rw [gp5, gp6]
        have dx5 : decide (x5 ≤ x6) = true := by simpa using gx5
        go_wp2_with fail
        go_ret
        exact ⟨rfl, k9⟩

theorem walk (a : Int) (a1 : -9223372036854775808 ≤ a) (a2 : a ≤ 9223372036854775807) (b : Int) (b1 : -9223372036854775808 ≤ b) (b2 : b ≤ 9223372036854775807) (c : Int) (_c1 : -9223372036854775808 ≤ c) (_c2 : c ≤ 9223372036854775807) (w : World) (T : Tabs w) :
    Calls Tryd.prog 8 #[.int .i64 a, .int .i64 b, .int .i64 c] w fun e w' => e = .returned (.bool true) ∧ Below w.heap.size w w' := by
  by_cases hc : c < 0
  · exact core1 a b _ _ c a1 a2 b1 b2 rfl rfl hc w T
  · exact core2 a b _ _ c a1 a2 b1 b2 rfl rfl hc w T

set_option maxRecDepth 100000 in
theorem lifted (os : Os) (started : os.Started) (H : Type) (enc : TypeId × Value → H) :
    ReturnsInHanded {} Tryd.checked os 8 .any (fun w args => (Rows.decimalOrdersSpec.pre enc Tryd.prog Tryd.f8 [] false w args ∧ laidMetH Tryd.prog laid4 w) ∧ sizedMet enc Tryd.prog Tryd.f8 (OpenSpec.ofChange Rows.decimalOrdersSpec) false w args)
      (Rows.decimalOrdersSpec.post enc Tryd.prog Tryd.f8 false true false false) := by
  refine returnsInHanded_of_change_and (C := Tryd.checked) (X := fun w _ => laidMetH Tryd.prog laid4 w) (fun _ _ _ hh h => h.of_heap hh) own started (by kernel_rfl) Tryd.func8
    (ChangeSpec.witness_shaped (enc := enc) (C := Tryd.checked) (os := os) (X := fun w _ => laidMetH Tryd.prog laid4 w) false (World.doorLaid Tryd.prog 29 os) #[.int .i64 0, .int .i64 0, .int .i64 0] 8 rfl (World.shaped_of_RefB (by kernel_rfl) (by kernel_rfl)) (by kernel_rfl) (by kernel_rfl) (by kernel_rfl) (door_met os _)) ?_
  intro Z base args ds gs before hval0 hW _ _ hL _
  have hval : ∀ (j : Nat) t v, Tryd.f8.params[j]? = some t → args[j]? = some v → Value.okWide Tryd.prog Z .any base t v := hval0
  have hW' := hW
  obtain ⟨p, q, hA0, hV, rfl, hfz, hnd⟩ := hW
  have hA : DataW.TrodAll enc Tryd.prog Z 0 (fun _ => true) true Tryd.f8.params.toList args.toList ds p := hA0
  rw [Tryd.params8] at hA hval
  obtain ⟨v0, vs0, d0, ds0, p0, q0, hargs, rfl, rfl, h0, r0⟩ := trodAll_cons hA
  obtain ⟨v1, vs1, d1, ds1, p1, q1, rfl, rfl, rfl, h1, r1⟩ := trodAll_cons r0
  obtain ⟨v2, vs2, d2, ds2, p2, q2, rfl, rfl, rfl, h2, r2⟩ := trodAll_cons r1
  obtain ⟨rfl, rfl, rfl⟩ := trodAll_nil r2
  obtain rfl : args = #[v0, v1, v2] := by cases args; simp_all
  obtain ⟨rfl, rfl⟩ := trodVars_none hV
  obtain ⟨a0, rfl, rfl, rfl, w0⟩ := open_int Tryd.underlying3 (hval 0 3 v0 rfl rfl) h0
  have n0 := bounds_i64 w0
  obtain ⟨a1, rfl, rfl, rfl, w1⟩ := open_int Tryd.underlying3 (hval 1 3 v1 rfl rfl) h1
  have n1 := bounds_i64 w1
  obtain ⟨a2, rfl, rfl, rfl, w2⟩ := open_int Tryd.underlying3 (hval 2 3 v2 rfl rfl) h2
  have n2 := bounds_i64 w2
  clear hA0 hval0
  simp only [List.append_nil] at hW'
  refine (walk a0 n0.1 n0.2 a1 n1.1 n1.2 a2 n2.1 n2.2 Z (tabs_of_laid hL)).mono fun e Z' ⟨he, hg⟩ => ?_
  subst he
  exact ⟨_, rfl, post_below (pa := []) (pv := []) hW' (fun _ _ _ => (trodAll_cons_mk (shut_bool Tryd.underlying4 _) trodAll_mk0)) (fun sp _ => (trodAll_cons_mk (shut_int Tryd.underlying3 w0) (trodAll_cons_mk (shut_int Tryd.underlying3 w1) (trodAll_cons_mk (shut_int Tryd.underlying3 w2) trodAll_mk0)))) (fun _ _ => rfl) hg.frame⟩

theorem over : Rows.DecimalOrdersSaid :=
  OpenClaim.holds_of_wide 8 Tryd.f8 rfl rfl rfl rfl rfl rfl rfl ⟨rfl, rfl, rfl, rfl, rfl⟩ rfl rfl rfl rfl rfl (by kernel_rfl) Tryd.func8 (by kernel_rfl)
    (of_decide_eq_true (by kernel_rfl)) (by unfold Func.isWrapper; first | (rw [if_pos (by decide +kernel)]; kernel_rfl) | (rw [if_neg (by decide +kernel)]; exact ⟨rfl, rfl⟩))
    (fun os started H enc _ => lifted os started H enc)

/-- The statement. -/
theorem proved : Rows.DecimalOrdersCardSaid :=
  Claim7.holds_tied_plain_at .later [] [.data, .data, .data, .data] true _ false
    over (fun _ h => by cases h) (by kernel_rfl) (fun _ h => by cases h) decimalOrders_row_tie rfl ⟨rfl, rfl⟩ (by kernel_rfl) rfl
    (fun f fn hf hfn => by
      obtain rfl : f = 8 := Option.some.inj ((show Tryd.prog.funcNamed "asof/asoflaw02.DecimalOrders" = some 8 by kernel_rfl).symm.trans hf) |>.symm
      obtain rfl : fn = Tryd.f8 := (Option.some.inj (Tryd.func8.symm.trans hfn)).symm
      exact ⟨by kernel_rfl, fun j t ht => by
        rw [Tryd.params8] at ht
        have hm : t ∈ [3, 3, 3] := by simpa using Array.mem_of_getElem? ht
        have hall : ([3, 3, 3].all fun u => !Tryd.prog.wantsStandIn u) = true := by kernel_rfl
        exact (show Tryd.prog.wantsStandIn t = false by simpa using List.all_eq_true.1 hall t hm)⟩)
    (by kernel_rfl)
#print axioms proved
end Go.Proofs.YtgfigcjbfigmiaaDoor.orders

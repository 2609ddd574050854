/-
  The statement DecimalNear holds for all ints. Conditions: the tables that its row lists hold what the text of the program lays in them; the card ties them to the pruned copy of the program.
-/
import Derived.Test.YtgfigcjbfigmiaaDoorLift
import Derived.Test.YtgfigcjbfigmiaaDoorFacts
import Derived.Test.YtgfigcjbfigmiaaDoorWide
namespace Go.Proofs.YtgfigcjbfigmiaaDoor.near
open Go.ChangeShapes Go.WideShapes Go.ChangeAt Go.RowKit Go.Joins Go.Sort

set_option maxRecDepth 100000 in
set_option maxHeartbeats 4000000 in
theorem nn (a : Int) (a1 : -9223372036854775808 ≤ a) (a2 : a ≤ 9223372036854775807) (b : Int) (b1 : -9223372036854775808 ≤ b) (b2 : b ≤ 9223372036854775807) (x y : Int) (hx : muX a b = x) (hy : diX a b = y) (hok : muK a b = false) (hfine : diK a b = false) (w : World) (T : Tabs w) :
    Calls Tryd.prog 5 #[.int .i64 a, .int .i64 b] w fun e w' => e = .returned (.bool true) ∧ Below w.heap.size w w' := by
  have k0 := b0 w
  have _u := And.intro (And.intro a1 a2) (And.intro b1 b2)
  clear _u
  go_enter Tryd.func5, Tryd.ntmps5
  go_wp2_with fail
  refine (example_any _ T).mono ?_
  rintro e w1 ⟨rfl, hb⟩
  have k1 := bnext k0 hb
  clear hb k0
  go_wp2_with fail
  refine (mul_dec a b _).mono ?_
  rw [hx, hok]
  rintro e w2 ⟨rfl, hb⟩
  have k2 := bnext k1 hb
  clear hb k1
  go_wp2_with fail
  refine (div_dec a b _).mono ?_
  rw [hy, hfine]
  rintro e w3 ⟨rfl, hb⟩
  have k3 := bnext k2 hb
  clear hb k2
  go_wp2_with fail
  go_ret
  exact ⟨rfl, k3⟩
set_option maxRecDepth 100000 in
set_option maxHeartbeats 4000000 in
theorem ny (a : Int) (a1 : -9223372036854775808 ≤ a) (a2 : a ≤ 9223372036854775807) (b : Int) (b1 : -9223372036854775808 ≤ b) (b2 : b ≤ 9223372036854775807) (x y : Int) (hx : muX a b = x) (hy : diX a b = y) (hok : muK a b = false) (hfine : diK a b = true) (w : World) (T : Tabs w) :
    Calls Tryd.prog 5 #[.int .i64 a, .int .i64 b] w fun e w' => e = .returned (.bool true) ∧ Below w.heap.size w w' := by
  have k0 := b0 w
  have _u := And.intro (And.intro a1 a2) (And.intro b1 b2)
  clear _u
  obtain ⟨ra, rb, hdv, hmy⟩ := diK_parts hfine
  obtain ⟨hb0, ny1, ny2, n1, n2, n3⟩ := near hdv
  obtain ⟨rb1, rb2⟩ := (rg_iff b).1 rb
  obtain ⟨z, hz⟩ : ∃ z, max b (-b) = z := ⟨_, rfl⟩
  have ez : ab b = z := by unfold ab; split <;> omega
  rw [← hmy, hy] at n1 n2 n3 ny1 ny2
  rw [ez] at n1 n2 n3
  have z0 : 0 ≤ z := by omega
  have z1 : z ≤ 1152921504606846976 := by omega
  obtain ⟨sD, hsD⟩ : ∃ s, b * y - 1000000 * a = s := ⟨_, rfl⟩
  have HsD := Lib.hid hsD
  rw [Int.mul_comm y, Int.mul_comm a, hsD] at n1 n2 n3
  have hD1 : sD + sD ≤ z := by omega
  have hD2 : -(sD + sD) ≤ z := by omega
  have iD : In (sD + sD) := by unfold In; omega
  have jD : In (-(sD + sD)) := by unfold In; omega
  have iZ : In z := by unfold In; omega
  have HWz : Hid (IntKind.i64.wrap (-z) = -z) := by unfold Hid; rw [IntKind.wrap_i64]; omega
  have iZ' : In (-z) := by unfold In; omega
  obtain ⟨rD, hrD⟩ : ∃ r, cmp (sD + sD) z = r := ⟨_, rfl⟩
  obtain ⟨tD, htD⟩ : ∃ r, cmp (sD + sD) (-z) = r := ⟨_, rfl⟩
  have ED : Hid (∀ w, Calls Tryd.prog 25 #[.agg #[.int .i64 (hi (sD + sD)), .int .u64 (lo (sD + sD))], .agg #[.int .i64 (hi z), .int .u64 (lo z)]] w fun e w' => e = .returned (.int .i64 rD) ∧ Go.RowKit.Below w.heap.size w w') := fun w => compare_at iD iZ hrD w
  have GD : Hid (∀ w, Calls Tryd.prog 25 #[.agg #[.int .i64 (hi (sD + sD)), .int .u64 (lo (sD + sD))], .agg #[.int .i64 (hi (-z)), .int .u64 (lo (-z))]] w fun e w' => e = .returned (.int .i64 tD) ∧ Go.RowKit.Below w.heap.size w w') := fun w => compare_at iD iZ' htD w
  have HD : Hid (((rD == 0) = true ∧ (y.tmod 2 == 0) = true) ∨ ((rD == 0) = false ∧ (tD == 0) = true ∧ (y.tmod 2 == 0) = true) ∨ ((rD == 0) = false ∧ (tD == 0) = false)) := by
    unfold Hid
    have c1 := cmp_cases (sD + sD) z
    have c2 := cmp_cases (sD + sD) (-z)
    rw [hrD] at c1
    rw [htD] at c2
    simp only [beq_iff_eq, beq_eq_false_iff_ne]
    by_cases g : rD = 0
    · exact .inl ⟨g, n3 (.inl (by omega))⟩
    · by_cases g' : tD = 0
      · exact .inr (.inl ⟨g, g', n3 (.inr (by omega))⟩)
      · exact .inr (.inr ⟨g, g'⟩)
  clear ra rb hdv hmy n1 n2 n3 hsD hrD htD ez hb0
  go_enter Tryd.func5, Tryd.ntmps5
  go_wp2_with fail
  refine (example_any _ T).mono ?_
  rintro e w1 ⟨rfl, hb⟩
  have k1 := bnext k0 hb
  clear hb k0
  go_wp2_with fail
  refine (mul_dec a b _).mono ?_
  rw [hx, hok]
  rintro e w2 ⟨rfl, hb⟩
  have k2 := bnext k1 hb
  clear hb k1
  go_wp2_with fail
  refine (div_dec a b _).mono ?_
  rw [hy, hfine]
  rintro e w3 ⟨rfl, hb⟩
  have k3 := bnext k2 hb
  clear hb k2
  go_wp2_with fail
  refine (wide_any b y 1000000 a sD _ b1 b2 (by omega) (by omega) (by decide) (by decide) a1 a2 HsD).mono ?_
  rintro e w4 ⟨rfl, hb⟩
  have k4 := bnext k3 hb
  clear hb k3
  have B := Box.new w4 (sD + sD)
  replace k4 := balloc k4 (.cells #[.int .i64 (hi (sD + sD)), .int .u64 (lo (sD + sD))] 31)
  have ⟨A0, A1⟩ := B
  go_wp2_with fail
  clear A0 A1
  rcases HD.out with ⟨g, g2⟩ | ⟨g, h, g2⟩ | ⟨g, h⟩
  · obtain ⟨B0, B1⟩ := B.regrown
    refine wp_region_quiet_below (by kernel_rfl) (by kernel_rfl) ?_
    iterate 5 (quiet_step ((first | (go_at_call 26; exact Calls.regrown_of (of_u _ _ (by omega) (by omega))) | (go_at_call 25; exact Calls.regrown_of (ED.out _)))))
    repeat (quiet_step ((first | (go_at_call 26; (try rw [HWz.out]); exact Calls.regrown_of (of_u _ _ (by omega) (by omega))) | (go_at_call 25; exact Calls.regrown_of (GD.out _)))))
    refine wpQuiet_nil ?_
    intro w5 hw
    have hb := below_of hw
    replace B := B.keeps hb
    have k5 := bnext k4 hb
    clear hw hb B0 B1 k4
    obtain ⟨B0, B1⟩ := B
    go_wp2_with fail
    refine (within_yes (sD + sD) z _ iD jD (by omega) (by omega) hD1 hD2).mono ?_
    rintro e w6 ⟨rfl, hb⟩
    have k6 := bnext k5 hb
    clear hb k5
    clear B0 B1
    go_wp2_with fail
    go_ret
    exact ⟨rfl, k6⟩
  · obtain ⟨B0, B1⟩ := B.regrown
    refine wp_region_quiet_below (by kernel_rfl) (by kernel_rfl) ?_
    iterate 5 (quiet_step ((first | (go_at_call 26; exact Calls.regrown_of (of_u _ _ (by omega) (by omega))) | (go_at_call 25; exact Calls.regrown_of (ED.out _)))))
    repeat (quiet_step ((first | (go_at_call 26; (try rw [HWz.out]); exact Calls.regrown_of (of_u _ _ (by omega) (by omega))) | (go_at_call 25; exact Calls.regrown_of (GD.out _)))))
    refine wpQuiet_nil ?_
    intro w5 hw
    have hb := below_of hw
    replace B := B.keeps hb
    have k5 := bnext k4 hb
    clear hw hb B0 B1 k4
    obtain ⟨B0, B1⟩ := B
    go_wp2_with fail
    refine (within_yes (sD + sD) z _ iD jD (by omega) (by omega) hD1 hD2).mono ?_
    rintro e w6 ⟨rfl, hb⟩
    have k6 := bnext k5 hb
    clear hb k5
    clear B0 B1
    go_wp2_with fail
    go_ret
    exact ⟨rfl, k6⟩
  · obtain ⟨B0, B1⟩ := B.regrown
    refine wp_region_quiet_below (by kernel_rfl) (by kernel_rfl) ?_
    iterate 5 (quiet_step ((first | (go_at_call 26; exact Calls.regrown_of (of_u _ _ (by omega) (by omega))) | (go_at_call 25; exact Calls.regrown_of (ED.out _)))))
    repeat (quiet_step ((first | (go_at_call 26; (try rw [HWz.out]); exact Calls.regrown_of (of_u _ _ (by omega) (by omega))) | (go_at_call 25; exact Calls.regrown_of (GD.out _)))))
    refine wpQuiet_nil ?_
    intro w5 hw
    have hb := below_of hw
    replace B := B.keeps hb
    have k5 := bnext k4 hb
    clear hw hb B0 B1 k4
    obtain ⟨B0, B1⟩ := B
    go_wp2_with fail
    refine (within_yes (sD + sD) z _ iD jD (by omega) (by omega) hD1 hD2).mono ?_
    rintro e w6 ⟨rfl, hb⟩
    have k6 := bnext k5 hb
    clear hb k5
    clear B0 B1
    go_wp2_with fail
    go_ret
    exact ⟨rfl, k6⟩
set_option maxRecDepth 100000 in
set_option maxHeartbeats 4000000 in
theorem yn (a : Int) (a1 : -9223372036854775808 ≤ a) (a2 : a ≤ 9223372036854775807) (b : Int) (b1 : -9223372036854775808 ≤ b) (b2 : b ≤ 9223372036854775807) (x y : Int) (hx : muX a b = x) (hy : diX a b = y) (hok : muK a b = true) (hfine : diK a b = false) (w : World) (T : Tabs w) :
    Calls Tryd.prog 5 #[.int .i64 a, .int .i64 b] w fun e w' => e = .returned (.bool true) ∧ Below w.heap.size w w' := by
  have k0 := b0 w
  have _u := And.intro (And.intro a1 a2) (And.intro b1 b2)
  clear _u
  obtain ⟨ra, rb, hdv, hmx⟩ := muK_parts hok
  obtain ⟨_, nx1, nx2, n1, n2, n3⟩ := near hdv
  have e6 : ab (1000000 : Int) = 1000000 := rfl
  rw [← hmx, hx] at n1 n2 n3 nx1 nx2
  rw [e6] at n1 n2 n3
  obtain ⟨sM, hsM⟩ : ∃ s, 1000000 * x - a * b = s := ⟨_, rfl⟩
  have HsM := Lib.hid hsM
  rw [Int.mul_comm x, hsM] at n1 n2 n3
  have hM1 : sM + sM ≤ 1000000 := by omega
  have hM2 : -(sM + sM) ≤ 1000000 := by omega
  have iM : In (sM + sM) := by unfold In; omega
  have jM : In (-(sM + sM)) := by unfold In; omega
  have iN : In 1000000 := by unfold In; omega
  have iN' : In (-1000000) := by unfold In; omega
  obtain ⟨rM, hrM⟩ : ∃ r, cmp (sM + sM) 1000000 = r := ⟨_, rfl⟩
  obtain ⟨tM, htM⟩ : ∃ r, cmp (sM + sM) (-1000000) = r := ⟨_, rfl⟩
  have EM : Hid (∀ w, Calls Tryd.prog 25 #[.agg #[.int .i64 (hi (sM + sM)), .int .u64 (lo (sM + sM))], .agg #[.int .i64 (hi 1000000), .int .u64 (lo 1000000)]] w fun e w' => e = .returned (.int .i64 rM) ∧ Go.RowKit.Below w.heap.size w w') := fun w => compare_at iM iN hrM w
  have GM : Hid (∀ w, Calls Tryd.prog 25 #[.agg #[.int .i64 (hi (sM + sM)), .int .u64 (lo (sM + sM))], .agg #[.int .i64 (hi (-1000000)), .int .u64 (lo (-1000000))]] w fun e w' => e = .returned (.int .i64 tM) ∧ Go.RowKit.Below w.heap.size w w') := fun w => compare_at iM iN' htM w
  have HM : Hid (((rM == 0) = true ∧ (x.tmod 2 == 0) = true) ∨ ((rM == 0) = false ∧ (tM == 0) = true ∧ (x.tmod 2 == 0) = true) ∨ ((rM == 0) = false ∧ (tM == 0) = false)) := by
    unfold Hid
    have c1 := cmp_cases (sM + sM) 1000000
    have c2 := cmp_cases (sM + sM) (-1000000)
    rw [hrM] at c1
    rw [htM] at c2
    simp only [beq_iff_eq, beq_eq_false_iff_ne]
    by_cases g : rM = 0
    · exact .inl ⟨g, n3 (.inl (by omega))⟩
    · by_cases g' : tM = 0
      · exact .inr (.inl ⟨g, g', n3 (.inr (by omega))⟩)
      · exact .inr (.inr ⟨g, g'⟩)
  clear ra rb hdv hmx n1 n2 n3 hsM hrM htM e6
  go_enter Tryd.func5, Tryd.ntmps5
  go_wp2_with fail
  refine (example_any _ T).mono ?_
  rintro e w1 ⟨rfl, hb⟩
  have k1 := bnext k0 hb
  clear hb k0
  go_wp2_with fail
  refine (mul_dec a b _).mono ?_
  rw [hx, hok]
  rintro e w2 ⟨rfl, hb⟩
  have k2 := bnext k1 hb
  clear hb k1
  go_wp2_with fail
  refine (wide_any 1000000 x a b sM _ (by decide) (by decide) (by omega) (by omega) a1 a2 b1 b2 HsM).mono ?_
  rintro e w3 ⟨rfl, hb⟩
  have k3 := bnext k2 hb
  clear hb k2
  have B := Box.new w3 (sM + sM)
  replace k3 := balloc k3 (.cells #[.int .i64 (hi (sM + sM)), .int .u64 (lo (sM + sM))] 31)
  have ⟨A0, A1⟩ := B
  go_wp2_with fail
  clear A0 A1
  rcases HM.out with ⟨g, g2⟩ | ⟨g, h, g2⟩ | ⟨g, h⟩
  · obtain ⟨B0, B1⟩ := B.regrown
    refine wp_region_quiet_below (by kernel_rfl) (by kernel_rfl) ?_
    iterate 4 (quiet_step ((first | (go_at_call 26; exact Calls.regrown_of (of_u _ _ (by omega) (by omega))) | (go_at_call 25; exact Calls.regrown_of (EM.out _)))))
    repeat (quiet_step ((first | (go_at_call 26; exact Calls.regrown_of (of_u _ _ (by omega) (by omega))) | (go_at_call 25; exact Calls.regrown_of (GM.out _)))))
    refine wpQuiet_nil ?_
    intro w4 hw
    have hb := below_of hw
    replace B := B.keeps hb
    have k4 := bnext k3 hb
    clear hw hb B0 B1 k3
    obtain ⟨B0, B1⟩ := B
    go_wp2_with fail
    refine (within_yes (sM + sM) 1000000 _ iM jM (by decide) (by decide) hM1 hM2).mono ?_
    rintro e w5 ⟨rfl, hb⟩
    have k5 := bnext k4 hb
    clear hb k4
    clear B0 B1
    go_wp2_with fail
    refine (div_dec a b _).mono ?_
    rw [hy, hfine]
    rintro e w6 ⟨rfl, hb⟩
    have k6 := bnext k5 hb
    clear hb k5
    go_wp2_with fail
    go_ret
    exact ⟨rfl, k6⟩
  · obtain ⟨B0, B1⟩ := B.regrown
    refine wp_region_quiet_below (by kernel_rfl) (by kernel_rfl) ?_
    iterate 4 (quiet_step ((first | (go_at_call 26; exact Calls.regrown_of (of_u _ _ (by omega) (by omega))) | (go_at_call 25; exact Calls.regrown_of (EM.out _)))))
    repeat (quiet_step ((first | (go_at_call 26; exact Calls.regrown_of (of_u _ _ (by omega) (by omega))) | (go_at_call 25; exact Calls.regrown_of (GM.out _)))))
    refine wpQuiet_nil ?_
    intro w4 hw
    have hb := below_of hw
    replace B := B.keeps hb
    have k4 := bnext k3 hb
    clear hw hb B0 B1 k3
    obtain ⟨B0, B1⟩ := B
    go_wp2_with fail
    refine (within_yes (sM + sM) 1000000 _ iM jM (by decide) (by decide) hM1 hM2).mono ?_
    rintro e w5 ⟨rfl, hb⟩
    have k5 := bnext k4 hb
    clear hb k4
    clear B0 B1
    go_wp2_with fail
    refine (div_dec a b _).mono ?_
    rw [hy, hfine]
    rintro e w6 ⟨rfl, hb⟩
    have k6 := bnext k5 hb
    clear hb k5
    go_wp2_with fail
    go_ret
    exact ⟨rfl, k6⟩
  · obtain ⟨B0, B1⟩ := B.regrown
    refine wp_region_quiet_below (by kernel_rfl) (by kernel_rfl) ?_
    iterate 4 (quiet_step ((first | (go_at_call 26; exact Calls.regrown_of (of_u _ _ (by omega) (by omega))) | (go_at_call 25; exact Calls.regrown_of (EM.out _)))))
    repeat (quiet_step ((first | (go_at_call 26; exact Calls.regrown_of (of_u _ _ (by omega) (by omega))) | (go_at_call 25; exact Calls.regrown_of (GM.out _)))))
    refine wpQuiet_nil ?_
    intro w4 hw
    have hb := below_of hw
    replace B := B.keeps hb
    have k4 := bnext k3 hb
    clear hw hb B0 B1 k3
    obtain ⟨B0, B1⟩ := B
    go_wp2_with fail
    refine (within_yes (sM + sM) 1000000 _ iM jM (by decide) (by decide) hM1 hM2).mono ?_
    rintro e w5 ⟨rfl, hb⟩
    have k5 := bnext k4 hb
    clear hb k4
    clear B0 B1
    go_wp2_with fail
    refine (div_dec a b _).mono ?_
    rw [hy, hfine]
    rintro e w6 ⟨rfl, hb⟩
    have k6 := bnext k5 hb
    clear hb k5
    go_wp2_with fail
    go_ret
    exact ⟨rfl, k6⟩
set_option maxRecDepth 100000 in
set_option maxHeartbeats 4000000 in
theorem yy (a : Int) (a1 : -9223372036854775808 ≤ a) (a2 : a ≤ 9223372036854775807) (b : Int) (b1 : -9223372036854775808 ≤ b) (b2 : b ≤ 9223372036854775807) (x y : Int) (hx : muX a b = x) (hy : diX a b = y) (hok : muK a b = true) (hfine : diK a b = true) (w : World) (T : Tabs w) :
    Calls Tryd.prog 5 #[.int .i64 a, .int .i64 b] w fun e w' => e = .returned (.bool true) ∧ Below w.heap.size w w' := by
  have k0 := b0 w
  have _u := And.intro (And.intro a1 a2) (And.intro b1 b2)
  clear _u
  obtain ⟨ra, rb, hdv, hmx⟩ := muK_parts hok
  obtain ⟨_, nx1, nx2, n1, n2, n3⟩ := near hdv
  have e6 : ab (1000000 : Int) = 1000000 := rfl
  rw [← hmx, hx] at n1 n2 n3 nx1 nx2
  rw [e6] at n1 n2 n3
  obtain ⟨sM, hsM⟩ : ∃ s, 1000000 * x - a * b = s := ⟨_, rfl⟩
  have HsM := Lib.hid hsM
  rw [Int.mul_comm x, hsM] at n1 n2 n3
  have hM1 : sM + sM ≤ 1000000 := by omega
  have hM2 : -(sM + sM) ≤ 1000000 := by omega
  have iM : In (sM + sM) := by unfold In; omega
  have jM : In (-(sM + sM)) := by unfold In; omega
  have iN : In 1000000 := by unfold In; omega
  have iN' : In (-1000000) := by unfold In; omega
  obtain ⟨rM, hrM⟩ : ∃ r, cmp (sM + sM) 1000000 = r := ⟨_, rfl⟩
  obtain ⟨tM, htM⟩ : ∃ r, cmp (sM + sM) (-1000000) = r := ⟨_, rfl⟩
  have EM : Hid (∀ w, Calls Tryd.prog 25 #[.agg #[.int .i64 (hi (sM + sM)), .int .u64 (lo (sM + sM))], .agg #[.int .i64 (hi 1000000), .int .u64 (lo 1000000)]] w fun e w' => e = .returned (.int .i64 rM) ∧ Go.RowKit.Below w.heap.size w w') := fun w => compare_at iM iN hrM w
  have GM : Hid (∀ w, Calls Tryd.prog 25 #[.agg #[.int .i64 (hi (sM + sM)), .int .u64 (lo (sM + sM))], .agg #[.int .i64 (hi (-1000000)), .int .u64 (lo (-1000000))]] w fun e w' => e = .returned (.int .i64 tM) ∧ Go.RowKit.Below w.heap.size w w') := fun w => compare_at iM iN' htM w
  have HM : Hid (((rM == 0) = true ∧ (x.tmod 2 == 0) = true) ∨ ((rM == 0) = false ∧ (tM == 0) = true ∧ (x.tmod 2 == 0) = true) ∨ ((rM == 0) = false ∧ (tM == 0) = false)) := by
    unfold Hid
    have c1 := cmp_cases (sM + sM) 1000000
    have c2 := cmp_cases (sM + sM) (-1000000)
    rw [hrM] at c1
    rw [htM] at c2
    simp only [beq_iff_eq, beq_eq_false_iff_ne]
    by_cases g : rM = 0
    · exact .inl ⟨g, n3 (.inl (by omega))⟩
    · by_cases g' : tM = 0
      · exact .inr (.inl ⟨g, g', n3 (.inr (by omega))⟩)
      · exact .inr (.inr ⟨g, g'⟩)
  clear ra rb hdv hmx n1 n2 n3 hsM hrM htM e6
  obtain ⟨ra, rb, hdv, hmy⟩ := diK_parts hfine
  obtain ⟨hb0, ny1, ny2, n1, n2, n3⟩ := near hdv
  obtain ⟨rb1, rb2⟩ := (rg_iff b).1 rb
  obtain ⟨z, hz⟩ : ∃ z, max b (-b) = z := ⟨_, rfl⟩
  have ez : ab b = z := by unfold ab; split <;> omega
  rw [← hmy, hy] at n1 n2 n3 ny1 ny2
  rw [ez] at n1 n2 n3
  have z0 : 0 ≤ z := by omega
  have z1 : z ≤ 1152921504606846976 := by omega
  obtain ⟨sD, hsD⟩ : ∃ s, b * y - 1000000 * a = s := ⟨_, rfl⟩
  have HsD := Lib.hid hsD
  rw [Int.mul_comm y, Int.mul_comm a, hsD] at n1 n2 n3
  have hD1 : sD + sD ≤ z := by omega
  have hD2 : -(sD + sD) ≤ z := by omega
  have iD : In (sD + sD) := by unfold In; omega
  have jD : In (-(sD + sD)) := by unfold In; omega
  have iZ : In z := by unfold In; omega
  have HWz : Hid (IntKind.i64.wrap (-z) = -z) := by unfold Hid; rw [IntKind.wrap_i64]; omega
  have iZ' : In (-z) := by unfold In; omega
  obtain ⟨rD, hrD⟩ : ∃ r, cmp (sD + sD) z = r := ⟨_, rfl⟩
  obtain ⟨tD, htD⟩ : ∃ r, cmp (sD + sD) (-z) = r := ⟨_, rfl⟩
  have ED : Hid (∀ w, Calls Tryd.prog 25 #[.agg #[.int .i64 (hi (sD + sD)), .int .u64 (lo (sD + sD))], .agg #[.int .i64 (hi z), .int .u64 (lo z)]] w fun e w' => e = .returned (.int .i64 rD) ∧ Go.RowKit.Below w.heap.size w w') := fun w => compare_at iD iZ hrD w
  have GD : Hid (∀ w, Calls Tryd.prog 25 #[.agg #[.int .i64 (hi (sD + sD)), .int .u64 (lo (sD + sD))], .agg #[.int .i64 (hi (-z)), .int .u64 (lo (-z))]] w fun e w' => e = .returned (.int .i64 tD) ∧ Go.RowKit.Below w.heap.size w w') := fun w => compare_at iD iZ' htD w
  have HD : Hid (((rD == 0) = true ∧ (y.tmod 2 == 0) = true) ∨ ((rD == 0) = false ∧ (tD == 0) = true ∧ (y.tmod 2 == 0) = true) ∨ ((rD == 0) = false ∧ (tD == 0) = false)) := by
    unfold Hid
    have c1 := cmp_cases (sD + sD) z
    have c2 := cmp_cases (sD + sD) (-z)
    rw [hrD] at c1
    rw [htD] at c2
    simp only [beq_iff_eq, beq_eq_false_iff_ne]
    by_cases g : rD = 0
    · exact .inl ⟨g, n3 (.inl (by omega))⟩
    · by_cases g' : tD = 0
      · exact .inr (.inl ⟨g, g', n3 (.inr (by omega))⟩)
      · exact .inr (.inr ⟨g, g'⟩)
  clear ra rb hdv hmy n1 n2 n3 hsD hrD htD ez hb0
  go_enter Tryd.func5, Tryd.ntmps5
  go_wp2_with fail
  refine (example_any _ T).mono ?_
  rintro e w1 ⟨rfl, hb⟩
  have k1 := bnext k0 hb
  clear hb k0
  go_wp2_with fail
  refine (mul_dec a b _).mono ?_
  rw [hx, hok]
  rintro e w2 ⟨rfl, hb⟩
  have k2 := bnext k1 hb
  clear hb k1
  go_wp2_with fail
  refine (wide_any 1000000 x a b sM _ (by decide) (by decide) (by omega) (by omega) a1 a2 b1 b2 HsM).mono ?_
  rintro e w3 ⟨rfl, hb⟩
  have k3 := bnext k2 hb
  clear hb k2
  have B := Box.new w3 (sM + sM)
  replace k3 := balloc k3 (.cells #[.int .i64 (hi (sM + sM)), .int .u64 (lo (sM + sM))] 31)
  have ⟨A0, A1⟩ := B
  go_wp2_with fail
  clear A0 A1
  rcases HM.out with ⟨g, g2⟩ | ⟨g, h, g2⟩ | ⟨g, h⟩
  · obtain ⟨B0, B1⟩ := B.regrown
    refine wp_region_quiet_below (by kernel_rfl) (by kernel_rfl) ?_
    iterate 4 (quiet_step ((first | (go_at_call 26; exact Calls.regrown_of (of_u _ _ (by omega) (by omega))) | (go_at_call 25; exact Calls.regrown_of (EM.out _)))))
    repeat (quiet_step ((first | (go_at_call 26; exact Calls.regrown_of (of_u _ _ (by omega) (by omega))) | (go_at_call 25; exact Calls.regrown_of (GM.out _)))))
    refine wpQuiet_nil ?_
    intro w4 hw
    have hb := below_of hw
    replace B := B.keeps hb
    have k4 := bnext k3 hb
    clear hw hb B0 B1 k3
    obtain ⟨B0, B1⟩ := B
    go_wp2_with fail
    refine (within_yes (sM + sM) 1000000 _ iM jM (by decide) (by decide) hM1 hM2).mono ?_
    rintro e w5 ⟨rfl, hb⟩
    have k5 := bnext k4 hb
    clear hb k4
    clear B0 B1
    go_wp2_with fail
    refine (div_dec a b _).mono ?_
    rw [hy, hfine]
    rintro e w6 ⟨rfl, hb⟩
    have k6 := bnext k5 hb
    clear hb k5
    go_wp2_with fail
    refine (wide_any b y 1000000 a sD _ b1 b2 (by omega) (by omega) (by decide) (by decide) a1 a2 HsD).mono ?_
    rintro e w7 ⟨rfl, hb⟩
    have k7 := bnext k6 hb
    clear hb k6
    have B := Box.new w7 (sD + sD)
    replace k7 := balloc k7 (.cells #[.int .i64 (hi (sD + sD)), .int .u64 (lo (sD + sD))] 31)
    have ⟨A0, A1⟩ := B
    go_wp2_with fail
    clear A0 A1
    rcases HD.out with ⟨g, g2⟩ | ⟨g, h, g2⟩ | ⟨g, h⟩
    · obtain ⟨B0, B1⟩ := B.regrown
      refine wp_region_quiet_below (by kernel_rfl) (by kernel_rfl) ?_
      iterate 5 (quiet_step ((first | (go_at_call 26; exact Calls.regrown_of (of_u _ _ (by omega) (by omega))) | (go_at_call 25; exact Calls.regrown_of (ED.out _)))))
      repeat (quiet_step ((first | (go_at_call 26; (try rw [HWz.out]); exact Calls.regrown_of (of_u _ _ (by omega) (by omega))) | (go_at_call 25; exact Calls.regrown_of (GD.out _)))))
      refine wpQuiet_nil ?_
      intro w8 hw
      have hb := below_of hw
      replace B := B.keeps hb
      have k8 := bnext k7 hb
      clear hw hb B0 B1 k7
      obtain ⟨B0, B1⟩ := B
      go_wp2_with fail
      refine (within_yes (sD + sD) z _ iD jD (by omega) (by omega) hD1 hD2).mono ?_
      rintro e w9 ⟨rfl, hb⟩
      have k9 := bnext k8 hb
      clear hb k8
      clear B0 B1
      go_wp2_with fail
      go_ret
      exact ⟨rfl, k9⟩
    · obtain ⟨B0, B1⟩ := B.regrown
      refine wp_region_quiet_below (by kernel_rfl) (by kernel_rfl) ?_
      iterate 5 (quiet_step ((first | (go_at_call 26; exact Calls.regrown_of (of_u _ _ (by omega) (by omega))) | (go_at_call 25; exact Calls.regrown_of (ED.out _)))))
      repeat (quiet_step ((first | (go_at_call 26; (try rw [HWz.out]); exact Calls.regrown_of (of_u _ _ (by omega) (by omega))) | (go_at_call 25; exact Calls.regrown_of (GD.out _)))))
      refine wpQuiet_nil ?_
      intro w8 hw
      have hb := below_of hw
      replace B := B.keeps hb
      have k8 := bnext k7 hb
      clear hw hb B0 B1 k7
      obtain ⟨B0, B1⟩ := B
      go_wp2_with fail
      refine (within_yes (sD + sD) z _ iD jD (by omega) (by omega) hD1 hD2).mono ?_
      rintro e w9 ⟨rfl, hb⟩
      have k9 := bnext k8 hb
      clear hb k8
      clear B0 B1
      go_wp2_with fail
      go_ret
      exact ⟨rfl, k9⟩
    · obtain ⟨B0, B1⟩ := B.regrown
      refine wp_region_quiet_below (by kernel_rfl) (by kernel_rfl) ?_
      iterate 5 (quiet_step ((first | (go_at_call 26; exact Calls.regrown_of (of_u _ _ (by omega) (by omega))) | (go_at_call 25; exact Calls.regrown_of (ED.out _)))))
      repeat (quiet_step ((first | (go_at_call 26; (try rw [HWz.out]); exact Calls.regrown_of (of_u _ _ (by omega) (by omega))) | (go_at_call 25; exact Calls.regrown_of (GD.out _)))))
      refine wpQuiet_nil ?_
      intro w8 hw
      have hb := below_of hw
      replace B := B.keeps hb
      have k8 := bnext k7 hb
      clear hw hb B0 B1 k7
      obtain ⟨B0, B1⟩ := B
      go_wp2_with fail
      refine (within_yes (sD + sD) z _ iD jD (by omega) (by omega) hD1 hD2).mono ?_
      rintro e w9 ⟨rfl, hb⟩
      have k9 := bnext k8 hb
      clear hb k8
      clear B0 B1
      go_wp2_with fail
      go_ret
      exact ⟨rfl, k9⟩
  · obtain ⟨B0, B1⟩ := B.regrown
    refine wp_region_quiet_below (by kernel_rfl) (by kernel_rfl) ?_
    iterate 4 (quiet_step ((first | (go_at_call 26; exact Calls.regrown_of (of_u _ _ (by omega) (by omega))) | (go_at_call 25; exact Calls.regrown_of (EM.out _)))))
    repeat (quiet_step ((first | (go_at_call 26; exact Calls.regrown_of (of_u _ _ (by omega) (by omega))) | (go_at_call 25; exact Calls.regrown_of (GM.out _)))))
    refine wpQuiet_nil ?_
    intro w4 hw
    have hb := below_of hw
    replace B := B.keeps hb
    have k4 := bnext k3 hb
    clear hw hb B0 B1 k3
    obtain ⟨B0, B1⟩ := B
    go_wp2_with fail
    refine (within_yes (sM + sM) 1000000 _ iM jM (by decide) (by decide) hM1 hM2).mono ?_
    rintro e w5 ⟨rfl, hb⟩
    have k5 := bnext k4 hb
    clear hb k4
    clear B0 B1
    go_wp2_with fail
    refine (div_dec a b _).mono ?_
    rw [hy, hfine]
    rintro e w6 ⟨rfl, hb⟩
    have k6 := bnext k5 hb
    clear hb k5
    go_wp2_with fail
    refine (wide_any b y 1000000 a sD _ b1 b2 (by omega) (by omega) (by decide) (by decide) a1 a2 HsD).mono ?_
    rintro e w7 ⟨rfl, hb⟩
    have k7 := bnext k6 hb
    clear hb k6
    have B := Box.new w7 (sD + sD)
    replace k7 := balloc k7 (.cells #[.int .i64 (hi (sD + sD)), .int .u64 (lo (sD + sD))] 31)
    have ⟨A0, A1⟩ := B
    go_wp2_with fail
    clear A0 A1
    rcases HD.out with ⟨g, g2⟩ | ⟨g, h, g2⟩ | ⟨g, h⟩
    · obtain ⟨B0, B1⟩ := B.regrown
      refine wp_region_quiet_below (by kernel_rfl) (by kernel_rfl) ?_
      iterate 5 (quiet_step ((first | (go_at_call 26; exact Calls.regrown_of (of_u _ _ (by omega) (by omega))) | (go_at_call 25; exact Calls.regrown_of (ED.out _)))))
      repeat (quiet_step ((first | (go_at_call 26; (try rw [HWz.out]); exact Calls.regrown_of (of_u _ _ (by omega) (by omega))) | (go_at_call 25; exact Calls.regrown_of (GD.out _)))))
      refine wpQuiet_nil ?_
      intro w8 hw
      have hb := below_of hw
      replace B := B.keeps hb
      have k8 := bnext k7 hb
      clear hw hb B0 B1 k7
      obtain ⟨B0, B1⟩ := B
      go_wp2_with fail
      refine (within_yes (sD + sD) z _ iD jD (by omega) (by omega) hD1 hD2).mono ?_
      rintro e w9 ⟨rfl, hb⟩
      have k9 := bnext k8 hb
      clear hb k8
      clear B0 B1
      go_wp2_with fail
      go_ret
      exact ⟨rfl, k9⟩
    · obtain ⟨B0, B1⟩ := B.regrown
      refine wp_region_quiet_below (by kernel_rfl) (by kernel_rfl) ?_
      iterate 5 (quiet_step ((first | (go_at_call 26; exact Calls.regrown_of (of_u _ _ (by omega) (by omega))) | (go_at_call 25; exact Calls.regrown_of (ED.out _)))))
      repeat (quiet_step ((first | (go_at_call 26; (try rw [HWz.out]); exact Calls.regrown_of (of_u _ _ (by omega) (by omega))) | (go_at_call 25; exact Calls.regrown_of (GD.out _)))))
      refine wpQuiet_nil ?_
      intro w8 hw
      have hb := below_of hw
      replace B := B.keeps hb
      have k8 := bnext k7 hb
      clear hw hb B0 B1 k7
      obtain ⟨B0, B1⟩ := B
      go_wp2_with fail
      refine (within_yes (sD + sD) z _ iD jD (by omega) (by omega) hD1 hD2).mono ?_
      rintro e w9 ⟨rfl, hb⟩
      have k9 := bnext k8 hb
      clear hb k8
      clear B0 B1
      go_wp2_with fail
      go_ret
      exact ⟨rfl, k9⟩
    · obtain ⟨B0, B1⟩ := B.regrown
      refine wp_region_quiet_below (by kernel_rfl) (by kernel_rfl) ?_
      iterate 5 (quiet_step ((first | (go_at_call 26; exact Calls.regrown_of (of_u _ _ (by omega) (by omega))) | (go_at_call 25; exact Calls.regrown_of (ED.out _)))))
      repeat (quiet_step ((first | (go_at_call 26; (try rw [HWz.out]); exact Calls.regrown_of (of_u _ _ (by omega) (by omega))) | (go_at_call 25; exact Calls.regrown_of (GD.out _)))))
      refine wpQuiet_nil ?_
      intro w8 hw
      have hb := below_of hw
      replace B := B.keeps hb
      have k8 := bnext k7 hb
      clear hw hb B0 B1 k7
      obtain ⟨B0, B1⟩ := B
      go_wp2_with fail
      refine (within_yes (sD + sD) z _ iD jD (by omega) (by omega) hD1 hD2).mono ?_
      rintro e w9 ⟨rfl, hb⟩
      have k9 := bnext k8 hb
      clear hb k8
      clear B0 B1
      go_wp2_with fail
      go_ret
      exact ⟨rfl, k9⟩
  · obtain ⟨B0, B1⟩ := B.regrown
    refine wp_region_quiet_below (by kernel_rfl) (by kernel_rfl) ?_
    iterate 4 (quiet_step ((first | (go_at_call 26; exact Calls.regrown_of (of_u _ _ (by omega) (by omega))) | (go_at_call 25; exact Calls.regrown_of (EM.out _)))))
    repeat (quiet_step ((first | (go_at_call 26; exact Calls.regrown_of (of_u _ _ (by omega) (by omega))) | (go_at_call 25; exact Calls.regrown_of (GM.out _)))))
    refine wpQuiet_nil ?_
    intro w4 hw
    have hb := below_of hw
    replace B := B.keeps hb
    have k4 := bnext k3 hb
    clear hw hb B0 B1 k3
    obtain ⟨B0, B1⟩ := B
    go_wp2_with fail
    refine (within_yes (sM + sM) 1000000 _ iM jM (by decide) (by decide) hM1 hM2).mono ?_
    rintro e w5 ⟨rfl, hb⟩
    have k5 := bnext k4 hb
    clear hb k4
    clear B0 B1
    go_wp2_with fail
    refine (div_dec a b _).mono ?_
    rw [hy, hfine]
    rintro e w6 ⟨rfl, hb⟩
    have k6 := bnext k5 hb
    clear hb k5
    go_wp2_with fail
    refine (wide_any b y 1000000 a sD _ b1 b2 (by omega) (by omega) (by decide) (by decide) a1 a2 HsD).mono ?_
    rintro e w7 ⟨rfl, hb⟩
    have k7 := bnext k6 hb
    clear hb k6
    have B := Box.new w7 (sD + sD)
    replace k7 := balloc k7 (.cells #[.int .i64 (hi (sD + sD)), .int .u64 (lo (sD + sD))] 31)
    have ⟨A0, A1⟩ := B
    go_wp2_with fail
    clear A0 A1
    rcases HD.out with ⟨g, g2⟩ | ⟨g, h, g2⟩ | ⟨g, h⟩
    · obtain ⟨B0, B1⟩ := B.regrown
      refine wp_region_quiet_below (by kernel_rfl) (by kernel_rfl) ?_
      iterate 5 (quiet_step ((first | (go_at_call 26; exact Calls.regrown_of (of_u _ _ (by omega) (by omega))) | (go_at_call 25; exact Calls.regrown_of (ED.out _)))))
      repeat (quiet_step ((first | (go_at_call 26; (try rw [HWz.out]); exact Calls.regrown_of (of_u _ _ (by omega) (by omega))) | (go_at_call 25; exact Calls.regrown_of (GD.out _)))))
      refine wpQuiet_nil ?_
      intro w8 hw
      have hb := below_of hw
      replace B := B.keeps hb
      have k8 := bnext k7 hb
      clear hw hb B0 B1 k7
      obtain ⟨B0, B1⟩ := B
      go_wp2_with fail
      refine (within_yes (sD + sD) z _ iD jD (by omega) (by omega) hD1 hD2).mono ?_
      rintro e w9 ⟨rfl, hb⟩
      have k9 := bnext k8 hb
      clear hb k8
      clear B0 B1
      go_wp2_with fail
      go_ret
      exact ⟨rfl, k9⟩
    · obtain ⟨B0, B1⟩ := B.regrown
      refine wp_region_quiet_below (by kernel_rfl) (by kernel_rfl) ?_
      iterate 5 (quiet_step ((first | (go_at_call 26; exact Calls.regrown_of (of_u _ _ (by omega) (by omega))) | (go_at_call 25; exact Calls.regrown_of (ED.out _)))))
      repeat (quiet_step ((first | (go_at_call 26; (try rw [HWz.out]); exact Calls.regrown_of (of_u _ _ (by omega) (by omega))) | (go_at_call 25; exact Calls.regrown_of (GD.out _)))))
      refine wpQuiet_nil ?_
      intro w8 hw
      have hb := below_of hw
      replace B := B.keeps hb
      have k8 := bnext k7 hb
      clear hw hb B0 B1 k7
      obtain ⟨B0, B1⟩ := B
      go_wp2_with fail
      refine (within_yes (sD + sD) z _ iD jD (by omega) (by omega) hD1 hD2).mono ?_
      rintro e w9 ⟨rfl, hb⟩
      have k9 := bnext k8 hb
      clear hb k8
      clear B0 B1
      go_wp2_with fail
      go_ret
      exact ⟨rfl, k9⟩
    · obtain ⟨B0, B1⟩ := B.regrown
      refine wp_region_quiet_below (by kernel_rfl) (by kernel_rfl) ?_
      iterate 5 (quiet_step ((first | (go_at_call 26; exact Calls.regrown_of (of_u _ _ (by omega) (by omega))) | (go_at_call 25; exact Calls.regrown_of (ED.out _)))))
      repeat (quiet_step ((first | (go_at_call 26; (try rw [HWz.out]); exact Calls.regrown_of (of_u _ _ (by omega) (by omega))) | (go_at_call 25; exact Calls.regrown_of (GD.out _)))))
      refine wpQuiet_nil ?_
      intro w8 hw
      have hb := below_of hw
      replace B := B.keeps hb
      have k8 := bnext k7 hb
      clear hw hb B0 B1 k7
      obtain ⟨B0, B1⟩ := B
      go_wp2_with fail
      refine (within_yes (sD + sD) z _ iD jD (by omega) (by omega) hD1 hD2).mono ?_
      rintro e w9 ⟨rfl, hb⟩
      have k9 := bnext k8 hb
      clear hb k8
      clear B0 B1
      go_wp2_with fail
      go_ret
      exact ⟨rfl, k9⟩

theorem walk (a : Int) (a1 : -9223372036854775808 ≤ a) (a2 : a ≤ 9223372036854775807) (b : Int) (b1 : -9223372036854775808 ≤ b) (b2 : b ≤ 9223372036854775807) (w : World) (T : Tabs w) :
    Calls Tryd.prog 5 #[.int .i64 a, .int .i64 b] w fun e w' => e = .returned (.bool true) ∧ Below w.heap.size w w' := by
  cases hok : muK a b
  · cases hfine : diK a b
    · exact nn a a1 a2 b b1 b2 _ _ rfl rfl hok hfine w T
    · exact ny a a1 a2 b b1 b2 _ _ rfl rfl hok hfine w T
  · cases hfine : diK a b
    · exact yn a a1 a2 b b1 b2 _ _ rfl rfl hok hfine w T
    · exact yy a a1 a2 b b1 b2 _ _ rfl rfl hok hfine w T

set_option maxRecDepth 100000 in
theorem lifted (os : Os) (started : os.Started) (H : Type) (enc : TypeId × Value → H) :
    ReturnsInHanded {} Tryd.checked os 5 .any (fun w args => (Rows.decimalNearSpec.pre enc Tryd.prog Tryd.f5 [] false w args ∧ laidMetH Tryd.prog laid4 w) ∧ sizedMet enc Tryd.prog Tryd.f5 (OpenSpec.ofChange Rows.decimalNearSpec) false w args)
      (Rows.decimalNearSpec.post enc Tryd.prog Tryd.f5 false true false false) := by
  refine returnsInHanded_of_change_and (C := Tryd.checked) (X := fun w _ => laidMetH Tryd.prog laid4 w) (fun _ _ _ hh h => h.of_heap hh) own started (by kernel_rfl) Tryd.func5
    (ChangeSpec.witness_shaped (enc := enc) (C := Tryd.checked) (os := os) (X := fun w _ => laidMetH Tryd.prog laid4 w) false (World.doorLaid Tryd.prog 29 os) #[.int .i64 0, .int .i64 0] 8 rfl (World.shaped_of_RefB (by kernel_rfl) (by kernel_rfl)) (by kernel_rfl) (by kernel_rfl) (by kernel_rfl) (door_met os _)) ?_
  intro Z base args ds gs before hval0 hW _ _ hL _
  have hval : ∀ (j : Nat) t v, Tryd.f5.params[j]? = some t → args[j]? = some v → Value.okWide Tryd.prog Z .any base t v := hval0
  have hW' := hW
  obtain ⟨p, q, hA0, hV, rfl, hfz, hnd⟩ := hW
  have hA : DataW.TrodAll enc Tryd.prog Z 0 (fun _ => true) true Tryd.f5.params.toList args.toList ds p := hA0
  rw [Tryd.params5] at hA hval
  obtain ⟨v0, vs0, d0, ds0, p0, q0, hargs, rfl, rfl, h0, r0⟩ := trodAll_cons hA
  obtain ⟨v1, vs1, d1, ds1, p1, q1, rfl, rfl, rfl, h1, r1⟩ := trodAll_cons r0
  obtain ⟨rfl, rfl, rfl⟩ := trodAll_nil r1
  obtain rfl : args = #[v0, v1] := by cases args; simp_all
  obtain ⟨rfl, rfl⟩ := trodVars_none hV
  obtain ⟨a0, rfl, rfl, rfl, w0⟩ := open_int Tryd.underlying3 (hval 0 3 v0 rfl rfl) h0
  have n0 := bounds_i64 w0
  obtain ⟨a1, rfl, rfl, rfl, w1⟩ := open_int Tryd.underlying3 (hval 1 3 v1 rfl rfl) h1
  have n1 := bounds_i64 w1
  clear hA0 hval0
  simp only [List.append_nil] at hW'
  refine (walk a0 n0.1 n0.2 a1 n1.1 n1.2 Z (tabs_of_laid hL)).mono fun e Z' ⟨he, hg⟩ => ?_
  subst he
  exact ⟨_, rfl, post_below (pa := []) (pv := []) hW' (fun _ _ _ => (trodAll_cons_mk (shut_bool Tryd.underlying4 _) trodAll_mk0)) (fun sp _ => (trodAll_cons_mk (shut_int Tryd.underlying3 w0) (trodAll_cons_mk (shut_int Tryd.underlying3 w1) trodAll_mk0))) (fun _ _ => rfl) hg.frame⟩

theorem over : Rows.DecimalNearSaid :=
  OpenClaim.holds_of_wide 5 Tryd.f5 rfl rfl rfl rfl rfl rfl rfl ⟨rfl, rfl, rfl, rfl, rfl⟩ rfl rfl rfl rfl rfl (by kernel_rfl) Tryd.func5 (by kernel_rfl)
    (of_decide_eq_true (by kernel_rfl)) (by unfold Func.isWrapper; first | (rw [if_pos (by decide +kernel)]; kernel_rfl) | (rw [if_neg (by decide +kernel)]; exact ⟨rfl, rfl⟩))
    (fun os started H enc _ => lifted os started H enc)

/-- The statement. -/
theorem proved : Rows.DecimalNearCardSaid :=
  Claim7.holds_tied_plain_at .later [] [.data, .data, .data, .data] true _ false
    over (fun _ h => by cases h) (by kernel_rfl) (fun _ h => by cases h) decimalNear_row_tie rfl ⟨rfl, rfl⟩ (by kernel_rfl) rfl
    (fun f fn hf hfn => by
      obtain rfl : f = 5 := Option.some.inj ((show Tryd.prog.funcNamed "asof/asoflaw02.DecimalNear" = some 5 by kernel_rfl).symm.trans hf) |>.symm
      obtain rfl : fn = Tryd.f5 := (Option.some.inj (Tryd.func5.symm.trans hfn)).symm
      exact ⟨by kernel_rfl, fun j t ht => by
        rw [Tryd.params5] at ht
        have hm : t ∈ [3, 3] := by simpa using Array.mem_of_getElem? ht
        have hall : ([3, 3].all fun u => !Tryd.prog.wantsStandIn u) = true := by kernel_rfl
        exact (show Tryd.prog.wantsStandIn t = false by simpa using List.all_eq_true.1 hall t hm)⟩)
    (by kernel_rfl)
#print axioms proved
end Go.Proofs.YtgfigcjbfigmiaaDoor.near

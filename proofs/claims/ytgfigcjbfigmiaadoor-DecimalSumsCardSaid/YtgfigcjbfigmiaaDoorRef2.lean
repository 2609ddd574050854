/-
  The reference's ToInt.
-/
import Derived.Test.YtgfigcjbfigmiaaDoorRef
namespace Go.Proofs.YtgfigcjbfigmiaaDoor
open Go.RowKit Go.Shelf

/-- There is one nearest number, of two the even one. -/
theorem dv_unique {a d y : Int} (hd : 0 < d) (ha : dvOk a d = true) (h1 : 2 * (y * d - a) ≤ d) (h2 : -d ≤ 2 * (y * d - a)) (h3 : 2 * (y * d - a) = d ∨ 2 * (y * d - a) = -d → y % 2 = 0) : dv a d = y := by
  obtain ⟨_, _, _, a1, a2, a3⟩ := near ha
  have e : ab d = d := by unfold ab; rw [if_neg (by omega)]
  rw [e] at a1 a2 a3
  have hm : ∀ y : Int, y.tmod 2 = 0 → y % 2 = 0 := fun y hy => Int.emod_eq_zero_of_dvd (Int.dvd_of_tmod_eq_zero hy)
  replace a3 := fun h => hm _ (a3 h)
  clear hm
  generalize dv a d = x at *
  rcases Int.lt_trichotomy x y with h | h | h
  · exfalso
    by_cases h4 : x + 2 ≤ y
    · have := Int.mul_le_mul_of_nonneg_right h4 (show 0 ≤ d from by omega)
      rw [Int.add_mul] at this
      generalize x * d = X at *
      generalize y * d = Y at *
      omega
    · obtain rfl : y = x + 1 := by omega
      rw [Int.add_mul, Int.one_mul] at h1 h2 h3
      generalize x * d = X at *
      omega
  · exact h
  · exfalso
    by_cases h4 : y + 2 ≤ x
    · have := Int.mul_le_mul_of_nonneg_right h4 (show 0 ≤ d from by omega)
      rw [Int.add_mul] at this
      generalize x * d = X at *
      generalize y * d = Y at *
      omega
    · obtain rfl : x = y + 1 := by omega
      rw [Int.add_mul, Int.one_mul] at a1 a2 a3
      generalize y * d = Y at *
      omega

theorem ti_eq {x y : Int} (x1 : -9223372036854775808 ≤ x) (x2 : x ≤ 9223372036854775807)
    (h1 : 2 * (y * 1000000 - x) ≤ 1000000) (h2 : -1000000 ≤ 2 * (y * 1000000 - x)) (h3 : 2 * (y * 1000000 - x) = 1000000 ∨ 2 * (y * 1000000 - x) = -1000000 → y % 2 = 0) : ti x = y :=
  dv_unique (by decide) (ok_micro x1 x2) h1 h2 h3

set_option maxHeartbeats 1000000 in
theorem refToInt_any (x : Int) (w : World) (x1 : -9223372036854775808 ≤ x) (x2 : x ≤ 9223372036854775807) :
    Calls Tryd.prog 15 #[.int .i64 x] w fun e w' => e = .returned (.int .i64 (ti x)) ∧ w = w' := by
  obtain ⟨q, hq⟩ : ∃ q, x.tdiv 1000000 = q := ⟨_, rfl⟩
  obtain ⟨r, hr⟩ : ∃ r, x.tmod 1000000 = r := ⟨_, rfl⟩
  have e : x = 1000000 * q + r := by rw [← hq, ← hr]; exact (Int.mul_tdiv_add_tmod x 1000000).symm
  have r1 : -1000000 < r := by rw [← hr]; have := Int.tmod_lt_of_pos (-x) (show (0 : Int) < 1000000 by decide); rw [Int.neg_tmod] at this; omega
  have r2 : r < 1000000 := by rw [← hr]; exact Int.tmod_lt_of_pos x (by decide)
  have q1 : -9223372036856 ≤ q := by omega
  have q2 : q ≤ 9223372036856 := by omega
  have hodd : ((q.tmod 2 == 0) = true ∧ q % 2 = 0) ∨ ((q.tmod 2 == 0) = false ∧ q % 2 = 1) := by
    simp only [beq_iff_eq, beq_eq_false_iff_ne]
    by_cases g : q.tmod 2 = 0
    · exact .inl ⟨g, Int.emod_eq_zero_of_dvd (Int.dvd_of_tmod_eq_zero g)⟩
    · refine .inr ⟨g, ?_⟩
      have : ¬ q % 2 = 0 := fun h => g (Int.tmod_eq_zero_of_dvd (Int.dvd_of_emod_eq_zero h))
      omega
  by_cases c1 : 500000 < r
  · have E : Hid (ti x = q + 1) := ti_eq x1 x2 (by omega) (by omega) (by omega)
    clear e
    have d1 : decide (500000 < r) = true := by simpa using c1
    go_enter Tryd.func15, Tryd.ntmps15
    go_wp2
    go_ret
    exact ⟨by rw [E.out]; rfl, rfl⟩
  · by_cases c2 : r = 500000
    · rcases hodd with ⟨o, o'⟩ | ⟨o, o'⟩
      · have E : Hid (ti x = q) := ti_eq x1 x2 (by omega) (by omega) (by omega)
        clear e
        have d1 : decide (500000 < r) = false := by simp; omega
        have d2 : decide (r < -500000) = false := by simp; omega
        subst c2
        go_enter Tryd.func15, Tryd.ntmps15
        go_wp2
        go_ret
        exact ⟨by rw [E.out]; rfl, rfl⟩
      · have E : Hid (ti x = q + 1) := ti_eq x1 x2 (by omega) (by omega) (by omega)
        clear e
        have d1 : decide (500000 < r) = false := by simp; omega
        subst c2
        go_enter Tryd.func15, Tryd.ntmps15
        go_wp2
        go_ret
        exact ⟨by rw [E.out]; rfl, rfl⟩
    · by_cases c3 : r < -500000
      · have E : Hid (ti x = q - 1) := ti_eq x1 x2 (by omega) (by omega) (by omega)
        clear e
        have d1 : decide (500000 < r) = false := by simp; omega
        have e1 : (r == 500000) = false := by rw [beq_eq_false_iff_ne]; omega
        have d2 : decide (r < -500000) = true := by simp; omega
        go_enter Tryd.func15, Tryd.ntmps15
        go_wp2
        go_ret
        exact ⟨by rw [E.out]; rfl, rfl⟩
      · by_cases c4 : r = -500000
        · rcases hodd with ⟨o, o'⟩ | ⟨o, o'⟩
          · have E : Hid (ti x = q) := ti_eq x1 x2 (by omega) (by omega) (by omega)
            clear e
            have d1 : decide (500000 < r) = false := by simp; omega
            have e1 : (r == 500000) = false := by rw [beq_eq_false_iff_ne]; omega
            have d2 : decide (r < -500000) = false := by simp; omega
            subst c4
            go_enter Tryd.func15, Tryd.ntmps15
            go_wp2
            go_ret
            exact ⟨by rw [E.out]; rfl, rfl⟩
          · have E : Hid (ti x = q - 1) := ti_eq x1 x2 (by omega) (by omega) (by omega)
            clear e
            have d1 : decide (500000 < r) = false := by simp; omega
            have e1 : (r == 500000) = false := by rw [beq_eq_false_iff_ne]; omega
            have d2 : decide (r < -500000) = false := by simp; omega
            subst c4
            go_enter Tryd.func15, Tryd.ntmps15
            go_wp2
            go_ret
            exact ⟨by rw [E.out]; rfl, rfl⟩
        · have E : Hid (ti x = q) := ti_eq x1 x2 (by omega) (by omega) (by omega)
          clear e
          have d1 : decide (500000 < r) = false := by simp; omega
          have e1 : (r == 500000) = false := by rw [beq_eq_false_iff_ne]; omega
          have d2 : decide (r < -500000) = false := by simp; omega
          have e2 : (r == -500000) = false := by rw [beq_eq_false_iff_ne]; omega
          go_enter Tryd.func15, Tryd.ntmps15
          go_wp2
          go_ret
          exact ⟨by rw [E.out]; rfl, rfl⟩
end Go.Proofs.YtgfigcjbfigmiaaDoor

/-
  When a division has a result, and what a product divided by its factor is.
-/
import Derived.Test.YtgfigcjbfigmiaaDoorDvFacts
namespace Go.Proofs.YtgfigcjbfigmiaaDoor
open Go.RowKit

theorem lim2 {A D Q R x m : Int} (e : A = m + R) (g : Q = 1152921504606846976) (h : m = 1152921504606846976 * D) (k : x = 0 ∧ ¬ (D - R < R ∨ (R = D - R ∧ Q % 2 = 1)) ∨ x = 1 ∧ (D - R < R ∨ (R = D - R ∧ Q % 2 = 1))) : Q + x ≤ 1152921504606846976 ↔ A + A ≤ D * 2305843009213693953 := by
  have p : ¬ Q % 2 = 1 := by rw [g]; decide
  have h2 : D * 2305843009213693953 = m + m + D := by rw [h, Int.mul_comm]; omega
  rw [h2, g]
  clear h h2 g
  constructor
  · intro _; omega
  · intro _; omega
/-- When there is a result. -/
theorem limit {a d : Int} (hd : d ≠ 0) : dvOk a d = true ↔ ab a + ab a ≤ ab d * 2305843009213693953 := by
  rw [ok_iff]
  obtain ⟨Q, R, q0, r0, r1, e, f⟩ := quo_parts (a := a) hd
  rw [f]
  have hx := ru_two Q R (ab d)
  have h1 := @ru_one Q R (ab d)
  have h0 := @ru_zero Q R (ab d)
  generalize ru Q R (ab d) = x at *
  rcases Int.lt_trichotomy Q 1152921504606846976 with g | g | g
  · clear h0 h1
    have := Int.mul_le_mul_of_nonneg_right (show Q + 1 ≤ 1152921504606846976 from by omega) (show 0 ≤ ab d from by omega)
    rw [Int.add_mul, Int.one_mul] at this
    generalize Q * ab d = m at *
    exact ⟨fun _ => by omega, fun _ => ⟨hd, by omega⟩⟩
  · have this : Q * ab d = 1152921504606846976 * ab d := by rw [g]
    generalize Q * ab d = m at *
    have k := lim2 (x := x) e g this (by
      rcases hx with hx | hx
      · exact .inl ⟨hx, h0 hx⟩
      · exact .inr ⟨hx, h1 hx⟩)
    exact ⟨fun h => k.1 h.2, fun h => ⟨hd, k.2 h⟩⟩
  · clear h0 h1
    have := Int.mul_le_mul_of_nonneg_right (show 1152921504606846977 ≤ Q from by omega) (show 0 ≤ ab d from by omega)
    generalize Q * ab d = m at *
    exact ⟨fun h => by omega, fun h => by omega⟩

/-- A product divided by one of its factors. -/
theorem dv_mul {q d : Int} (hd : d ≠ 0) : quo (q * d) d = ab q := by
  have hD : 0 < ab d := by unfold ab; split <;> omega
  unfold quo
  rw [ab_mul, Int.mul_ediv_cancel _ (by omega), Int.mul_emod_left]
  have : ru (ab q) 0 (ab d) = 0 := by unfold ru; rw [if_neg (by omega)]
  rw [this, Int.add_zero]
theorem mul_in {q d : Int} (q1 : -9223372036854775808 ≤ q) (q2 : q ≤ 9223372036854775807) (d1 : -9223372036854775808 ≤ d) (d2 : d ≤ 9223372036854775807) : In (q * d) := by
  have a1 : ab q ≤ 9223372036854775808 := by unfold ab; split <;> omega
  have a2 : ab d ≤ 9223372036854775808 := by unfold ab; split <;> omega
  have h := Int.mul_le_mul a1 a2 (ab_nonneg d) (by omega)
  rw [← ab_mul] at h
  unfold In
  unfold ab at h
  split at h <;> omega
theorem divides {q d : Int} (hd : d ≠ 0) (q1 : -1152921504606846976 ≤ q) (q2 : q ≤ 1152921504606846976) : dvOk (q * d) d = true ∧ dv (q * d) d = q := by
  have h : dvOk (q * d) d = true := by
    rw [ok_iff, dv_mul hd]
    exact ⟨hd, by unfold ab; split <;> omega⟩
  refine ⟨h, ?_⟩
  rw [dv_yes h]
  unfold sq
  rw [dv_mul hd]
  rcases Int.lt_trichotomy d 0 with g | g | g
  · rcases Int.lt_trichotomy q 0 with k | k | k
    · have := Int.mul_pos_of_neg_of_neg k g
      rw [if_pos (by omega), ab_neg k]; omega
    · subst k; rw [Int.zero_mul]; simp [ab]
    · have := Int.mul_neg_of_pos_of_neg k g
      rw [if_neg (by omega), ab_pos (by omega)]
  · omega
  · rcases Int.lt_trichotomy q 0 with k | k | k
    · have := Int.mul_neg_of_neg_of_pos k g
      rw [if_pos (by omega), ab_neg k]; omega
    · subst k; rw [Int.zero_mul]; simp [ab]
    · have := Int.mul_pos k g
      rw [if_neg (by omega), ab_pos (by omega)]
theorem divides_not {q d : Int} (h : d = 0 ∨ 1152921504606846976 < q ∨ q < -1152921504606846976) : dvOk (q * d) d = false := by
  by_cases hd : d = 0
  · unfold dvOk; simp [hd]
  · have : ¬ dvOk (q * d) d = true := by
      rw [ok_iff, dv_mul hd]
      unfold ab
      split <;> omega
    simpa using this
end Go.Proofs.YtgfigcjbfigmiaaDoor

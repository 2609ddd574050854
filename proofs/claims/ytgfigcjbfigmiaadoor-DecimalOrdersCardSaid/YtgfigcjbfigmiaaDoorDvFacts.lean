/-
  What the rounded quotient is, in integers: the quotient that is left, its limit, and products.
-/
import Derived.Test.YtgfigcjbfigmiaaDoorNum
namespace Go.Proofs.YtgfigcjbfigmiaaDoor
open Go.RowKit

theorem ab_eq (x : Int) : ab x = (x.natAbs : Int) := by unfold ab; split <;> omega
theorem ab_mul (x y : Int) : ab (x * y) = ab x * ab y := by rw [ab_eq, ab_eq, ab_eq, Int.natAbs_mul, Int.natCast_mul]

theorem quo_parts {a d : Int} (hd : d ≠ 0) : ∃ Q R, 0 ≤ Q ∧ 0 ≤ R ∧ R < ab d ∧ ab a = Q * ab d + R ∧ quo a d = Q + ru Q R (ab d) := by
  have hD : 0 < ab d := by unfold ab; split <;> omega
  refine ⟨ab a / ab d, ab a % ab d, Int.ediv_nonneg (ab_nonneg a) (by omega), Int.emod_nonneg _ (by omega), Int.emod_lt_of_pos _ hD, ?_, rfl⟩
  rw [Int.mul_comm]
  exact (Int.mul_ediv_add_emod _ _).symm
theorem ru_one {q r d : Int} (h : ru q r d = 1) : d - r < r ∨ (r = d - r ∧ q % 2 = 1) := by
  unfold ru at h
  split at h
  · assumption
  · omega
theorem ru_zero {q r d : Int} (h : ru q r d = 0) : ¬ (d - r < r ∨ (r = d - r ∧ q % 2 = 1)) := by
  unfold ru at h
  split at h
  · omega
  · assumption
theorem ru_two (q r d : Int) : ru q r d = 0 ∨ ru q r d = 1 := by unfold ru; split <;> omega
theorem ok_iff (a d : Int) : dvOk a d = true ↔ d ≠ 0 ∧ quo a d ≤ 1152921504606846976 := by unfold dvOk; rw [decide_eq_true_eq]

/-- What is left of a number behind the division. -/
theorem rounds {a d : Int} (h : dvOk a d = true) : d ≠ 0 ∧ -1152921504606846976 ≤ dv a d ∧ dv a d ≤ 1152921504606846976 ∧
    (ab (a - dv a d * d) + ab (a - dv a d * d) < ab d ∨ (ab (a - dv a d * d) + ab (a - dv a d * d) = ab d ∧ (dv a d).tmod 2 = 0)) := by
  rw [dv_yes h]
  rw [ok_iff] at h
  obtain ⟨hd, hq⟩ := h
  obtain ⟨Q, R, q0, r0, r1, e, f⟩ := quo_parts (a := a) hd
  unfold sq
  rw [f] at hq ⊢
  have hx := ru_two Q R (ab d)
  have h1 := @ru_one Q R (ab d)
  have h0 := @ru_zero Q R (ab d)
  generalize ru Q R (ab d) = x at *
  have eP : (Q + x) * ab d = Q * ab d + x * ab d := Int.add_mul _ _ _
  have eX : x * ab d = 0 ∧ x = 0 ∨ x * ab d = ab d ∧ x = 1 := by
    rcases hx with rfl | rfl
    · left; simp
    · right; simp
  have hz : Q + x = 0 → (Q + x) * ab d = 0 := fun h => by rw [h, Int.zero_mul]
  generalize hP : (Q + x) * ab d = P at *
  generalize x * ab d = X at *
  have hm : ∀ y : Int, y.tmod 2 = 0 ↔ y % 2 = 0 := fun y => by
    constructor
    · intro hy; exact Int.emod_eq_zero_of_dvd (Int.dvd_of_tmod_eq_zero hy)
    · intro hy; exact Int.tmod_eq_zero_of_dvd (Int.dvd_of_emod_eq_zero hy)
  have hmul : ∀ y, y = Q + x ∨ y = -(Q + x) → (y * d = P ∧ (y = Q + x ∧ 0 ≤ d ∨ y = -(Q + x) ∧ d < 0)) ∨ (y * d = -P ∧ (y = Q + x ∧ d < 0 ∨ y = -(Q + x) ∧ 0 ≤ d)) := by
    intro y hy
    have hab : ab d = d ∧ 0 ≤ d ∨ ab d = -d ∧ d < 0 := by unfold ab; split <;> omega
    rcases hab with ⟨g, gd⟩ | ⟨g, gd⟩ <;> rw [g] at hP <;> rcases hy with rfl | rfl
    · left; exact ⟨hP, .inl ⟨rfl, gd⟩⟩
    · right; exact ⟨by rw [Int.neg_mul, hP], .inr ⟨rfl, gd⟩⟩
    · right; exact ⟨by rw [Int.mul_neg] at hP; omega, .inl ⟨rfl, gd⟩⟩
    · left; exact ⟨by rw [Int.neg_mul, ← Int.mul_neg]; exact hP, .inr ⟨rfl, gd⟩⟩
  have key := hmul (if (a < 0 ∧ 0 ≤ d) ∨ (0 ≤ a ∧ d < 0) then -(Q + x) else Q + x) (by split <;> simp)
  rw [hm]
  generalize hy : (if (a < 0 ∧ 0 ≤ d) ∨ (0 ≤ a ∧ d < 0) then -(Q + x) else Q + x) = y at *
  have hy' : ((a < 0 ∧ 0 ≤ d) ∨ (0 ≤ a ∧ d < 0)) ∧ y = -(Q + x) ∨ ¬ ((a < 0 ∧ 0 ≤ d) ∨ (0 ≤ a ∧ d < 0)) ∧ y = Q + x := by
    split at hy <;> omega
  clear hy hmul hm
  generalize y * d = Y at *
  have hab : ab d = d ∧ 0 ≤ d ∨ ab d = -d ∧ d < 0 := by unfold ab; split <;> omega
  have haa : ab a = a ∧ 0 ≤ a ∨ ab a = -a ∧ a < 0 := by unfold ab; split <;> omega
  have har : ab (a - Y) = a - Y ∧ 0 ≤ a - Y ∨ ab (a - Y) = -(a - Y) ∧ a - Y < 0 := by unfold ab; split <;> omega
  generalize ab d = D at *
  generalize ab a = A at *
  generalize ab (a - Y) = T at *
  generalize Q * D = m at *
  refine ⟨hd, by omega, by omega, ?_⟩
  rcases eX with ⟨hX, rfl⟩ | ⟨hX, rfl⟩
  · have g := h0 rfl
    clear h0 h1
    omega
  · have g := h1 rfl
    clear h0 h1
    omega
theorem no_result {a d : Int} (h : dvOk a d = false) : dv a d = 0 := dv_no h

end Go.Proofs.YtgfigcjbfigmiaaDoor

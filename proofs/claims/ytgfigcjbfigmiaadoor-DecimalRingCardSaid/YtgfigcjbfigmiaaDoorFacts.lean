/-
  What the answers of package decimal have to do with each other.
-/
import Derived.Test.YtgfigcjbfigmiaaDoorArith
namespace Go.Proofs.YtgfigcjbfigmiaaDoor
open Go.RowKit

theorem adX_comm (a b : Int) : adX a b = adX b a ∧ adK a b = adK b a := by
  have e : adK a b = adK b a := by unfold adK; rw [Int.add_comm a b]; cases rg a <;> cases rg b <;> rfl
  exact ⟨by unfold adX; rw [e, Int.add_comm a b], e⟩
theorem muX_comm (a b : Int) : muX a b = muX b a ∧ muK a b = muK b a := by
  have e : muK a b = muK b a := by unfold muK; rw [Int.mul_comm a b]; cases rg a <;> cases rg b <;> rfl
  exact ⟨by unfold muX; rw [e, Int.mul_comm a b], e⟩
theorem adK_parts {a b : Int} (h : adK a b = true) : rg a = true ∧ rg b = true ∧ rg (a + b) = true ∧ adX a b = a + b := by
  have h' := h
  unfold adK at h
  simp only [Bool.and_eq_true] at h
  exact ⟨h.1, h.2.1, h.2.2, by unfold adX; rw [h']; rfl⟩
theorem muK_parts {a b : Int} (h : muK a b = true) : rg a = true ∧ rg b = true ∧ dvOk (a * b) 1000000 = true ∧ muX a b = dv (a * b) 1000000 := by
  have h' := h
  unfold muK at h
  simp only [Bool.and_eq_true] at h
  exact ⟨h.1, h.2.1, h.2.2, by unfold muX; rw [h']; rfl⟩
theorem diK_parts {a b : Int} (h : diK a b = true) : rg a = true ∧ rg b = true ∧ dvOk (a * 1000000) b = true ∧ diX a b = dv (a * 1000000) b := by
  have h' := h
  unfold diK at h
  simp only [Bool.and_eq_true] at h
  exact ⟨h.1, h.2.1, h.2.2, by unfold diX; rw [h']; rfl⟩
theorem sub_back {a b : Int} (h : adK a b = true) : suX (adX a b) b = a ∧ suK (adX a b) b = true := by
  obtain ⟨h1, h2, h3, h4⟩ := adK_parts h
  rw [h4]
  have e : a + b - b = a := by omega
  exact ⟨by rw [suX_in h3 h2, e, kx_yes h1], by rw [suK_in h3 h2, e, h1]⟩
theorem rg_neg (a : Int) : rg (-a) = rg a := by unfold rg; congr 1; rw [eq_iff_iff]; omega
theorem muX_neg (a b : Int) : muX (-a) b = -muX a b ∧ muK (-a) b = muK a b := by
  have e : muK (-a) b = muK a b := by unfold muK; rw [rg_neg, Int.neg_mul, ok_neg_l]
  refine ⟨?_, e⟩
  unfold muX
  rw [e, Int.neg_mul, dv_neg_l]
  split <;> rfl
theorem diX_neg (a b : Int) : diX (-a) b = -diX a b ∧ diK (-a) b = diK a b := by
  have e : diK (-a) b = diK a b := by unfold diK; rw [rg_neg, Int.neg_mul, ok_neg_l]
  refine ⟨?_, e⟩
  unfold diX
  rw [e, Int.neg_mul, dv_neg_l]
  split <;> rfl
theorem diX_neg_r (a b : Int) : diX a (-b) = -diX a b ∧ diK a (-b) = diK a b := by
  have e : diK a (-b) = diK a b := by unfold diK; rw [rg_neg, ok_neg_r]
  refine ⟨?_, e⟩
  unfold diX
  rw [e, dv_neg_r]
  split <;> rfl
theorem diX_neg2 (a b : Int) : diX (-a) (-b) = diX a b ∧ diK (-a) (-b) = diK a b := by
  have h1 := diX_neg a (-b)
  have h2 := diX_neg_r a b
  rw [h1.1, h1.2, h2.1, h2.2]
  exact ⟨Int.neg_neg _, rfl⟩
theorem muX_range (a b : Int) : -1152921504606846976 ≤ muX a b ∧ muX a b ≤ 1152921504606846976 := by
  cases h : muK a b
  · unfold muX; rw [h]; simp
  · obtain ⟨_, _, h3, h4⟩ := muK_parts h
    have := rounds h3
    rw [h4]; exact ⟨this.2.1, this.2.2.1⟩
theorem diX_range (a b : Int) : -1152921504606846976 ≤ diX a b ∧ diX a b ≤ 1152921504606846976 := by
  cases h : diK a b
  · unfold diX; rw [h]; simp
  · obtain ⟨_, _, h3, h4⟩ := diK_parts h
    have := rounds h3
    rw [h4]; exact ⟨this.2.1, this.2.2.1⟩
theorem adX_range (a b : Int) : -1152921504606846976 ≤ adX a b ∧ adX a b ≤ 1152921504606846976 := by
  cases h : adK a b
  · unfold adX; rw [h]; simp
  · obtain ⟨_, _, h3, h4⟩ := adK_parts h
    rw [rg_iff] at h3
    rw [h4]; exact h3

/-! Order. -/
theorem adX_mono {a b c : Int} (h : a ≤ b) (ha : adK a c = true) (hb : adK b c = true) : adX a c ≤ adX b c := by
  rw [(adK_parts ha).2.2.2, (adK_parts hb).2.2.2]; omega
theorem muX_mono {a b c : Int} (h : a ≤ b) (hc : 0 ≤ c) (ha : muK a c = true) (hb : muK b c = true) : muX a c ≤ muX b c := by
  obtain ⟨_, _, a3, a4⟩ := muK_parts ha
  obtain ⟨_, _, b3, b4⟩ := muK_parts hb
  rw [a4, b4]
  exact dv_mono (by decide) (Int.mul_le_mul_of_nonneg_right h hc) a3 b3
theorem diX_mono {a b c : Int} (h : a ≤ b) (hc : 0 ≤ c) (ha : diK a c = true) (hb : diK b c = true) : diX a c ≤ diX b c := by
  obtain ⟨_, _, a3, a4⟩ := diK_parts ha
  obtain ⟨_, _, b3, b4⟩ := diK_parts hb
  rw [a4, b4]
  have := (ok_iff _ _).1 a3
  exact dv_mono (by omega) (by omega) a3 b3
theorem ti_mono {a b : Int} (h : a ≤ b) (a1 : -9223372036854775808 ≤ a) (b2 : b ≤ 9223372036854775807) : ti a ≤ ti b :=
  dv_mono (by decide) h (ok_micro a1 (by omega)) (ok_micro (by omega) b2)

/-! Whole numbers. -/
theorem ti_whole {m : Int} (h : rg (m * 1000000) = true) : ti (m * 1000000) = m := by
  rw [rg_iff] at h
  exact (divides (q := m) (d := 1000000) (by decide) (by omega) (by omega)).2
theorem mul_one_dec {x : Int} (h : rg x = true) : muX x 1000000 = x ∧ muK x 1000000 = true := by
  have h1 : rg 1000000 = true := rfl
  have h2 := (rg_iff x).1 h
  have h3 := divides (q := x) (d := 1000000) (by decide) h2.1 h2.2
  exact ⟨by rw [muX_in h h1, h3.2], by rw [muK_in h h1, h3.1]⟩
theorem mul_whole {m n : Int} (h : muK (m * 1000000) (n * 1000000) = true) :
    muX (m * 1000000) (n * 1000000) = m * n * 1000000 ∧ rg (m * n * 1000000) = true := by
  obtain ⟨h1, h2, h3, h4⟩ := muK_parts h
  have e : m * 1000000 * (n * 1000000) = m * n * 1000000 * 1000000 := by
    rw [Int.mul_assoc m, Int.mul_left_comm 1000000 n, ← Int.mul_assoc, ← Int.mul_assoc, Int.mul_assoc (m * n)]
  rw [e] at h3 h4
  have hr : rg (m * n * 1000000) = true := by
    cases hr : rg (m * n * 1000000)
    · rw [rg_no] at hr
      have := divides_not (q := m * n * 1000000) (d := 1000000) (by omega)
      rw [this] at h3
      cases h3
    · rfl
  refine ⟨?_, hr⟩
  rw [rg_iff] at hr
  rw [h4, (divides (q := m * n * 1000000) (d := 1000000) (by decide) hr.1 hr.2).2]
theorem div_whole {m n : Int} (hn : n ≠ 0) (hm : rg (m * 1000000) = true) (hn' : rg (n * 1000000) = true) (h : rg (m * n * 1000000) = true) :
    diX (m * n * 1000000) (n * 1000000) = m * 1000000 ∧ diK (m * n * 1000000) (n * 1000000) = true := by
  have e : m * n * 1000000 * 1000000 = m * 1000000 * (n * 1000000) := by
    rw [Int.mul_assoc m, Int.mul_assoc m, Int.mul_assoc m, Int.mul_comm 1000000 (n * 1000000)]
  have hm' := (rg_iff _).1 hm
  have h3 := divides (q := m * 1000000) (d := n * 1000000) (by omega) hm'.1 hm'.2
  rw [← e] at h3
  exact ⟨by rw [diX_in h hn', h3.2], by rw [diK_in h hn', h3.1]⟩
end Go.Proofs.YtgfigcjbfigmiaaDoor

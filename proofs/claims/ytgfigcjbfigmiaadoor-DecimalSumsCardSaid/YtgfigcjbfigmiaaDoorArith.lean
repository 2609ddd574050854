/-
  The answers of package decimal as integers, and what they have in common.
-/
import Derived.Test.YtgfigcjbfigmiaaDoorDvMore
namespace Go.Proofs.YtgfigcjbfigmiaaDoor
open Go.RowKit

/-- Is x in range? -/
def rg (x : Int) : Bool := decide (-1152921504606846976 ≤ x ∧ x ≤ 1152921504606846976)
/-- A result that is kept if it is in range. -/
def kx (x : Int) : Int := if rg x then x else 0
theorem rg_iff (x : Int) : rg x = true ↔ -1152921504606846976 ≤ x ∧ x ≤ 1152921504606846976 := by unfold rg; rw [decide_eq_true_eq]
theorem rg_no (x : Int) : rg x = false ↔ x < -1152921504606846976 ∨ 1152921504606846976 < x := by unfold rg; rw [decide_eq_false_iff_not]; omega
theorem kx_yes {x : Int} (h : rg x = true) : kx x = x := by unfold kx; rw [h]; rfl
theorem kx_no {x : Int} (h : rg x = false) : kx x = 0 := by unfold kx; rw [h]; rfl

theorem dvOk_one (a : Int) : dvOk a 1 = rg a := by
  cases h : rg a
  · rw [rg_no] at h
    have := divides_not (q := a) (d := 1) (by omega)
    rwa [Int.mul_one] at this
  · rw [rg_iff] at h
    have := (divides (q := a) (d := 1) (by decide) h.1 h.2).1
    rwa [Int.mul_one] at this
theorem dv_one (a : Int) : dv a 1 = kx a := by
  cases h : rg a
  · rw [kx_no h, no_result ((dvOk_one a).trans h)]
  · rw [kx_yes h]
    rw [rg_iff] at h
    have := (divides (q := a) (d := 1) (by decide) h.1 h.2).2
    rwa [Int.mul_one] at this
theorem ok_micro {x : Int} (h1 : -9223372036854775808 ≤ x) (h2 : x ≤ 9223372036854775807) : dvOk x 1000000 = true := by
  rw [limit (by decide)]
  have : ab (1000000 : Int) = 1000000 := rfl
  rw [this]
  unfold ab
  split <;> omega

/-- The answers of Add, Sub, Mul and Div, and whether there are any. -/
def adK (a b : Int) : Bool := rg a && (rg b && rg (a + b))
def adX (a b : Int) : Int := if adK a b then a + b else 0
def suK (a b : Int) : Bool := rg a && (rg b && rg (a - b))
def suX (a b : Int) : Int := if suK a b then a - b else 0
def muK (a b : Int) : Bool := rg a && (rg b && dvOk (a * b) 1000000)
def muX (a b : Int) : Int := if muK a b then dv (a * b) 1000000 else 0
def diK (a b : Int) : Bool := rg a && (rg b && dvOk (a * 1000000) b)
def diX (a b : Int) : Int := if diK a b then dv (a * 1000000) b else 0
/-- ToInt. -/
def ti (x : Int) : Int := dv x 1000000

theorem adK_in {a b : Int} (ha : rg a = true) (hb : rg b = true) : adK a b = rg (a + b) := by unfold adK; rw [ha, hb]; rfl
theorem suK_in {a b : Int} (ha : rg a = true) (hb : rg b = true) : suK a b = rg (a - b) := by unfold suK; rw [ha, hb]; rfl
theorem muK_in {a b : Int} (ha : rg a = true) (hb : rg b = true) : muK a b = dvOk (a * b) 1000000 := by unfold muK; rw [ha, hb]; rfl
theorem diK_in {a b : Int} (ha : rg a = true) (hb : rg b = true) : diK a b = dvOk (a * 1000000) b := by unfold diK; rw [ha, hb]; rfl
theorem adX_in {a b : Int} (ha : rg a = true) (hb : rg b = true) : adX a b = kx (a + b) := by unfold adX kx; rw [adK_in ha hb]
theorem suX_in {a b : Int} (ha : rg a = true) (hb : rg b = true) : suX a b = kx (a - b) := by unfold suX kx; rw [suK_in ha hb]
theorem muX_in {a b : Int} (ha : rg a = true) (hb : rg b = true) : muX a b = dv (a * b) 1000000 := by
  unfold muX; rw [muK_in ha hb]; split
  · rfl
  · rename_i h; exact (no_result (by simpa using h)).symm
theorem diX_in {a b : Int} (ha : rg a = true) (hb : rg b = true) : diX a b = dv (a * 1000000) b := by
  unfold diX; rw [diK_in ha hb]; split
  · rfl
  · rename_i h; exact (no_result (by simpa using h)).symm
theorem out_all {a b : Int} (h : rg a = false ∨ rg b = false) : adK a b = false ∧ suK a b = false ∧ muK a b = false ∧ diK a b = false ∧ adX a b = 0 ∧ suX a b = 0 ∧ muX a b = 0 ∧ diX a b = 0 := by
  have e1 : adK a b = false := by unfold adK; rcases h with h | h <;> rw [h] <;> simp
  have e2 : suK a b = false := by unfold suK; rcases h with h | h <;> rw [h] <;> simp
  have e3 : muK a b = false := by unfold muK; rcases h with h | h <;> rw [h] <;> simp
  have e4 : diK a b = false := by unfold diK; rcases h with h | h <;> rw [h] <;> simp
  refine ⟨e1, e2, e3, e4, ?_, ?_, ?_, ?_⟩
  · unfold adX; rw [e1]; rfl
  · unfold suX; rw [e2]; rfl
  · unfold muX; rw [e3]; rfl
  · unfold diX; rw [e4]; rfl

/-! What is left behind a division, for both signs; monotony; signs. -/
theorem near {a d : Int} (h : dvOk a d = true) : d ≠ 0 ∧ -1152921504606846976 ≤ dv a d ∧ dv a d ≤ 1152921504606846976 ∧
    2 * (dv a d * d - a) ≤ ab d ∧ -ab d ≤ 2 * (dv a d * d - a) ∧ (2 * (dv a d * d - a) = ab d ∨ 2 * (dv a d * d - a) = -ab d → (dv a d).tmod 2 = 0) := by
  obtain ⟨h0, h1, h2, h3⟩ := rounds h
  generalize dv a d * d = p at *
  have hx : ab (a - p) = a - p ∧ 0 ≤ a - p ∨ ab (a - p) = -(a - p) ∧ a - p < 0 := by unfold ab; split <;> omega
  refine ⟨h0, h1, h2, by omega, by omega, fun hh => ?_⟩
  rcases h3 with h3 | h3
  · omega
  · exact h3.2

theorem quo_neg_l (a d : Int) : quo (-a) d = quo a d := by
  have : ab (-a) = ab a := by unfold ab; split <;> split <;> omega
  unfold quo; rw [this]
theorem quo_neg_r (a d : Int) : quo a (-d) = quo a d := by
  have : ab (-d) = ab d := by unfold ab; split <;> split <;> omega
  unfold quo; rw [this]
theorem quo_zero (d : Int) : quo 0 d = 0 := by
  have : ab (0 : Int) = 0 := rfl
  unfold quo; rw [this]
  unfold ru
  simp only [Int.zero_ediv, Int.zero_emod]
  have := ab_nonneg d
  rw [if_neg (by omega)]
  rfl
theorem ok_neg_l (a d : Int) : dvOk (-a) d = dvOk a d := by unfold dvOk; rw [quo_neg_l]
theorem ok_neg_r (a d : Int) : dvOk a (-d) = dvOk a d := by unfold dvOk; rw [quo_neg_r]; congr 2; rw [eq_iff_iff]; omega
theorem dv_zero (d : Int) : dv 0 d = 0 := by
  unfold dv sq
  rw [quo_zero]
  split
  · split <;> rfl
  · rfl
theorem dv_neg_l (a d : Int) : dv (-a) d = -dv a d := by
  by_cases h0 : a = 0
  · subst h0; rw [Int.neg_zero, dv_zero]; rfl
  · unfold dv
    rw [ok_neg_l]
    split
    · unfold sq
      rw [quo_neg_l]
      split <;> split <;> omega
    · rfl
theorem dv_neg_r (a d : Int) : dv a (-d) = -dv a d := by
  by_cases h0 : a = 0
  · subst h0; rw [dv_zero, dv_zero]; rfl
  · by_cases hd : d = 0
    · subst hd
      have : ∀ a : Int, dv a 0 = 0 := fun a => no_result (by unfold dvOk; simp)
      rw [Int.neg_zero, this]; rfl
    · unfold dv
      rw [ok_neg_r]
      split
      · unfold sq
        rw [quo_neg_r]
        split <;> split <;> omega
      · rfl
/-- A greater number has no lesser quotient. -/
theorem dv_mono {a b d : Int} (hd : 0 < d) (hab : a ≤ b) (ha : dvOk a d = true) (hb : dvOk b d = true) : dv a d ≤ dv b d := by
  obtain ⟨_, _, _, a1, a2, a3⟩ := near ha
  obtain ⟨_, _, _, b1, b2, b3⟩ := near hb
  have e : ab d = d := by unfold ab; rw [if_neg (by omega)]
  rw [e] at a1 a2 a3 b1 b2 b3
  have hm : ∀ y : Int, y.tmod 2 = 0 → y % 2 = 0 := fun y hy => Int.emod_eq_zero_of_dvd (Int.dvd_of_tmod_eq_zero hy)
  replace a3 := fun h => hm _ (a3 h)
  replace b3 := fun h => hm _ (b3 h)
  clear hm
  generalize dv a d = x at *
  generalize dv b d = y at *
  by_cases h : x ≤ y
  · exact h
  · exfalso
    by_cases h2 : y + 2 ≤ x
    · have := Int.mul_le_mul_of_nonneg_right h2 (show 0 ≤ d from by omega)
      rw [Int.add_mul] at this
      generalize x * d = X at *
      generalize y * d = Y at *
      omega
    · obtain rfl : x = y + 1 := by omega
      rw [Int.add_mul, Int.one_mul] at a1 a2 a3
      generalize y * d = Y at *
      omega
end Go.Proofs.YtgfigcjbfigmiaaDoor

/-
  When an answer of Mul or Div is missing.
-/
import Derived.Test.YtgfigcjbfigmiaaDoorFacts
import Derived.Test.YtgfigcjbfigmiaaDoorBase
namespace Go.Proofs.YtgfigcjbfigmiaaDoor
open Go.RowKit

theorem great1 {t : Int} (h : ¬ (t + t ≤ 1000000 * 2305843009213693953)) : 1000000 * 1152921504606846976 < t := by omega
theorem great2 {x q : Int} (q0 : 0 ≤ q) (h : ¬ (x + x ≤ q * 2305843009213693953)) : 1152921504606846976 * q < x := by
  have e : q * 2305843009213693953 = 1152921504606846976 * q + 1152921504606846976 * q + q := by
    show q * (1152921504606846976 + 1152921504606846976 + 1) = _
    rw [Int.mul_add, Int.mul_add, Int.mul_one, Int.mul_comm q]
  rw [e] at h
  generalize 1152921504606846976 * q = y at *
  omega
theorem miss_mul {a b p q : Int} (ra : rg a = true) (rb : rg b = true) (ep : ab a = p) (eq : ab b = q) (h : muK a b = false) : cmp (p * q) (1000000 * 1152921504606846976) = 1 := by
  rw [muK_in ra rb] at h
  have hl := limit (a := a * b) (d := 1000000) (by decide)
  rw [h, ab_mul, ep, eq] at hl
  have e6 : ab (1000000 : Int) = 1000000 := rfl
  rw [e6] at hl
  refine cmp_gt (great1 ?_)
  intro g
  have := hl.2 g
  cases this
theorem miss_div {a b p q : Int} (ra : rg a = true) (rb : rg b = true) (ep : ab a = p) (eq : ab b = q) (hb : b ≠ 0) (h : diK a b = false) : cmp (1000000 * p) (1152921504606846976 * q) = 1 := by
  rw [diK_in ra rb] at h
  have hl := limit (a := a * 1000000) (d := b) hb
  have e6 : ab (1000000 : Int) = 1000000 := rfl
  rw [h, ab_mul, ep, eq, e6, Int.mul_comm p] at hl
  have q0 : 0 ≤ q := by rw [← eq]; exact ab_nonneg b
  refine cmp_gt (great2 q0 ?_)
  intro g
  have := hl.2 g
  cases this
end Go.Proofs.YtgfigcjbfigmiaaDoor

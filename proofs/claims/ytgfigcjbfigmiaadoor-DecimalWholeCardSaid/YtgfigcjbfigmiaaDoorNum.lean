/-
  Plain arithmetic of 128-bit integers: a number, taken modulo 2^128, by its signed upper half and its lower half.
-/
import Derived.WalkKit
namespace Go.Proofs.YtgfigcjbfigmiaaDoor
open Go.RowKit

/-- The lower half of n modulo 2^128. -/
def lo (n : Int) : Int := n % 18446744073709551616
/-- The upper half of n modulo 2^128, signed. -/
def hi (n : Int) : Int := (n / 18446744073709551616 + 9223372036854775808) % 18446744073709551616 - 9223372036854775808
/-- The pair that stands for n. -/
def W (n : Int) : Value := .agg #[.int .i64 (hi n), .int .u64 (lo n)]

theorem lo_range (n : Int) : 0 ≤ lo n ∧ lo n ≤ 18446744073709551615 := by unfold lo; omega
theorem hi_range (n : Int) : -9223372036854775808 ≤ hi n ∧ hi n ≤ 9223372036854775807 := by unfold hi; omega
theorem wf_hi (n : Int) : (Lit.int .i64 (hi n)).wf = true := by have := hi_range n; exact WalkArith.wf_i64 (by omega)
theorem W_of (h l : Int) (h1 : -9223372036854775808 ≤ h) (h2 : h ≤ 9223372036854775807) (l1 : 0 ≤ l) (l2 : l ≤ 18446744073709551615) :
    Value.agg #[.int .i64 h, .int .u64 l] = W (h * 18446744073709551616 + l) := by
  have e1 : hi (h * 18446744073709551616 + l) = h := by unfold hi; omega
  have e2 : lo (h * 18446744073709551616 + l) = l := by unfold lo; omega
  unfold W; rw [e1, e2]
theorem W_congr {a b : Int} (h : a % 340282366920938463463374607431768211456 = b % 340282366920938463463374607431768211456) : W a = W b := by
  have e1 : hi a = hi b := by unfold hi; omega
  have e2 : lo a = lo b := by unfold lo; omega
  unfold W; rw [e1, e2]
theorem W_inj {a b : Int} (h1 : hi a = hi b) (h2 : lo a = lo b) : a % 340282366920938463463374607431768211456 = b % 340282366920938463463374607431768211456 := by
  unfold hi at h1; unfold lo at h2; omega
theorem W_zero : Value.agg #[.int .i64 0, .int .u64 0] = W 0 := by
  have e1 : hi 0 = 0 := by decide
  have e2 : lo 0 = 0 := by decide
  unfold W; rw [e1, e2]
theorem add_hi (a b : Int) : wrap64 (wrap64 (hi a + hi b) + (lo a + lo b) / 18446744073709551616) = hi (a + b) := by unfold hi lo wrap64; omega
theorem add_lo (a b : Int) : (lo a + lo b) % 18446744073709551616 = lo (a + b) := by unfold lo; omega
/-- The borrow of x - y. -/
def bor (x y : Int) : Int := if x < y then 1 else 0
theorem bor_range (x y : Int) : 0 ≤ bor x y ∧ bor x y ≤ 1 := by unfold bor; split <;> decide
theorem sub_hi (a b : Int) : wrap64 (wrap64 (hi a - hi b) - bor (lo a) (lo b)) = hi (a - b) := by unfold hi lo wrap64 bor; split <;> omega
theorem sub_lo (a b : Int) : (lo a - lo b) % 18446744073709551616 = lo (a - b) := by unfold lo; omega
theorem of_hi (n : Int) (h1 : -9223372036854775808 ≤ n) (h2 : n ≤ 9223372036854775807) : n / 9223372036854775808 = hi n := by unfold hi; omega
theorem of_lo (n : Int) : IntKind.u64.wrap n = lo n := by rw [IntKind.wrap_u64]; unfold lo; rfl
theorem u64_ex (x : Int) : ∃ k, IntKind.u64.wrap x = x + 18446744073709551616 * k := ⟨-(x / 18446744073709551616), by rw [IntKind.wrap_u64]; omega⟩
theorem mul_parts (a n : Int) : ∃ p1 p2 p3 : Int, p1 = (a / 18446744073709551616) * (n / 18446744073709551616) ∧ p2 = (a / 18446744073709551616) * lo n ∧ p3 = lo a * (n / 18446744073709551616) ∧
    a * n = 18446744073709551616 * (18446744073709551616 * p1 + p2 + p3) + lo a * lo n := by
  refine ⟨_, _, _, rfl, rfl, rfl, ?_⟩
  have ea : a = 18446744073709551616 * (a / 18446744073709551616) + lo a := by unfold lo; omega
  have en : n = 18446744073709551616 * (n / 18446744073709551616) + lo n := by unfold lo; omega
  generalize a / 18446744073709551616 = A at *
  generalize n / 18446744073709551616 = S at *
  generalize lo a = la at *
  generalize lo n = ln at *
  subst ea en
  rw [Int.add_mul, Int.mul_add, Int.mul_add, Int.mul_add, Int.mul_add, Int.mul_assoc, Int.mul_assoc, Int.mul_left_comm A, Int.mul_left_comm la]
  omega
theorem scale_lo (a n : Int) : lo a * lo n % 18446744073709551616 = lo (a * n) := by
  obtain ⟨p1, p2, p3, _, _, _, e⟩ := mul_parts a n
  rw [e]; unfold lo; omega
theorem scale_hi (a n : Int) (h1 : -9223372036854775808 ≤ n) (h2 : n ≤ 9223372036854775807) :
    wrap64 (IntKind.u64.wrap (lo a * lo n / 18446744073709551616 + IntKind.u64.wrap (IntKind.u64.wrap (IntKind.u64.wrap (hi a) * lo n) + IntKind.u64.wrap (lo a * IntKind.u64.wrap (n / 9223372036854775808))))) = hi (a * n) := by
  obtain ⟨p1, p2, p3, e1, e2, e3, e⟩ := mul_parts a n
  have hs : n / 9223372036854775808 = n / 18446744073709551616 := by omega
  rw [hs]
  obtain ⟨k0, f0⟩ : ∃ k, hi a = a / 18446744073709551616 + 18446744073709551616 * k := ⟨-((a / 18446744073709551616 + 9223372036854775808) / 18446744073709551616), by unfold hi; omega⟩
  obtain ⟨k1, f1⟩ := u64_ex (hi a)
  obtain ⟨k2, f2⟩ := u64_ex (IntKind.u64.wrap (hi a) * lo n)
  obtain ⟨k3, f3⟩ := u64_ex (n / 18446744073709551616)
  obtain ⟨k4, f4⟩ := u64_ex (lo a * IntKind.u64.wrap (n / 18446744073709551616))
  obtain ⟨k5, f5⟩ := u64_ex (IntKind.u64.wrap (IntKind.u64.wrap (hi a) * lo n) + IntKind.u64.wrap (lo a * IntKind.u64.wrap (n / 18446744073709551616)))
  obtain ⟨k6, f6⟩ := u64_ex (lo a * lo n / 18446744073709551616 + IntKind.u64.wrap (IntKind.u64.wrap (IntKind.u64.wrap (hi a) * lo n) + IntKind.u64.wrap (lo a * IntKind.u64.wrap (n / 18446744073709551616))))
  rw [f6, f5, f2, f4, f1, f3, f0, e]
  rw [Int.add_mul, Int.add_mul, Int.mul_add, Int.mul_assoc, Int.mul_assoc, Int.mul_left_comm (lo a), ← e2, ← e3]
  generalize lo a * lo n = m
  generalize k0 * lo n = m0
  generalize k1 * lo n = m1
  generalize lo a * k3 = m3
  unfold hi wrap64
  omega
/-- n is a signed integer of 128 bits. -/
def In (n : Int) : Prop := -170141183460469231731687303715884105728 ≤ n ∧ n < 170141183460469231731687303715884105728
/-- What exact.Compare answers. -/
def cmp (a b : Int) : Int := if a < b then -1 else if a = b then 0 else 1
theorem cmp_lt {a b : Int} (h : a < b) : cmp a b = -1 := by unfold cmp; rw [if_pos h]
theorem cmp_eq {a b : Int} (h : a = b) : cmp a b = 0 := by unfold cmp; rw [if_neg (by omega), if_pos h]
theorem cmp_gt {a b : Int} (h : b < a) : cmp a b = 1 := by unfold cmp; rw [if_neg (by omega), if_neg (by omega)]
theorem five (a b : Int) : hi a < hi b ∨ (hi a = hi b ∧ lo a < lo b) ∨ (hi a = hi b ∧ lo a = lo b) ∨ (hi a = hi b ∧ lo b < lo a) ∨ hi b < hi a := by omega
theorem lt_of {a b : Int} (ha : In a) (hb : In b) (h : hi a < hi b ∨ (hi a = hi b ∧ lo a < lo b)) : a < b := by unfold In at ha hb; unfold hi lo at h; omega
theorem eq_of {a b : Int} (ha : In a) (hb : In b) (h1 : hi a = hi b) (h2 : lo a = lo b) : a = b := by unfold In at ha hb; unfold hi at h1; unfold lo at h2; omega
/-- The absolute value. -/
def ab (a : Int) : Int := if a < 0 then -a else a
theorem ab_neg {a : Int} (h : a < 0) : ab a = -a := by unfold ab; rw [if_pos h]
theorem ab_pos {a : Int} (h : 0 ≤ a) : ab a = a := by unfold ab; rw [if_neg (by omega)]
theorem hi_neg {a : Int} (ha : In a) : hi a < 0 ↔ a < 0 := by unfold In at ha; unfold hi; omega
theorem ab_hi {a : Int} (ha : In a) : IntKind.u64.wrap (hi (ab a)) = ab a / 18446744073709551616 := by
  unfold In at ha; rw [IntKind.wrap_u64]; unfold hi ab; split <;> omega
/-- What half-to-even rounding adds to a quotient q with the rest r by d. -/
def ru (q r d : Int) : Int := if d - r < r ∨ (r = d - r ∧ q % 2 = 1) then 1 else 0
/-- The absolute value of the rounded quotient. -/
def quo (a d : Int) : Int := ab a / ab d + ru (ab a / ab d) (ab a % ab d) (ab d)
/-- Whether exact.Divide has a result. -/
def dvOk (a d : Int) : Bool := decide (d ≠ 0 ∧ quo a d ≤ 1152921504606846976)
/-- The rounded quotient with its sign. -/
def sq (a d : Int) : Int := if (a < 0 ∧ 0 ≤ d) ∨ (0 ≤ a ∧ d < 0) then -quo a d else quo a d
/-- What exact.Divide answers. -/
def dv (a d : Int) : Int := if dvOk a d then sq a d else 0
theorem ru_range (q r d : Int) : 0 ≤ ru q r d ∧ ru q r d ≤ 1 := by unfold ru; split <;> decide
theorem ab_nonneg (a : Int) : 0 ≤ ab a := by unfold ab; split <;> omega
theorem dv_no {a d : Int} (h : dvOk a d = false) : dv a d = 0 := by unfold dv; rw [h]; rfl
theorem dv_yes {a d : Int} (h : dvOk a d = true) : dv a d = sq a d := by unfold dv; rw [h]; rfl

/-- All that the four ways through exact.Divide ask. -/
structure Dv (a d A D ah al q r x : Int) : Prop where
  A0 : ab a = A
  D0 : ab d = D
  eah : A / 18446744073709551616 = ah
  eal : A % 18446744073709551616 = al
  eq : q = A / D
  er : r = A % D
  ex : x = ru q r D
theorem dvOk_of {a d A D ah al q r x : Int} (h : Dv a d A D ah al q r x) : dvOk a d = decide (D ≠ 0 ∧ q + x ≤ 1152921504606846976) := by
  obtain ⟨rfl, rfl, rfl, rfl, rfl, rfl, rfl⟩ := h
  unfold dvOk quo
  have : (d ≠ 0) ↔ (ab d ≠ 0) := by unfold ab; split <;> omega
  simp only [this]
theorem Dv.none1 {a d A D ah al q r x : Int} (h : Dv a d A D ah al q r x) (g : D ≤ ah) : dvOk a d = false := by
  rw [dvOk_of h]
  have hx := ru_range q r D
  rw [← h.ex] at hx
  have hA := ab_nonneg a
  have hD := ab_nonneg d
  rw [h.A0] at hA
  rw [h.D0] at hD
  simp only [decide_eq_false_iff_not]
  rintro ⟨h1, h2⟩
  have e : 18446744073709551616 ≤ q := by
    rw [h.eq, Int.le_ediv_iff_mul_le (by omega)]; have := h.eah; omega
  omega
theorem Dv.none2 {a d A D ah al q r x : Int} (h : Dv a d A D ah al q r x) (g : 1152921504606846976 < q + x) : dvOk a d = false := by
  rw [dvOk_of h]
  simp only [decide_eq_false_iff_not]
  omega
theorem Dv.none3 {a d A D ah al q r x : Int} (h : Dv a d A D ah al q r x) (g : 1152921504606846976 < q) : dvOk a d = false := by
  have hx := ru_range q r D
  rw [← h.ex] at hx
  exact h.none2 (by omega)
theorem Dv.some {a d A D ah al q r x : Int} (h : Dv a d A D ah al q r x) (g : ah < D) (g' : q + x ≤ 1152921504606846976) : dvOk a d = true := by
  rw [dvOk_of h]
  have hA := ab_nonneg a
  rw [h.A0] at hA
  have := h.eah
  simp only [decide_eq_true_eq]
  omega
theorem Dv.sq {a d A D ah al q r x : Int} (h : Dv a d A D ah al q r x) : sq a d = if (a < 0 ∧ 0 ≤ d) ∨ (0 ≤ a ∧ d < 0) then -(q + x) else q + x := by
  obtain ⟨rfl, rfl, rfl, rfl, rfl, rfl, rfl⟩ := h
  rfl
end Go.Proofs.YtgfigcjbfigmiaaDoor

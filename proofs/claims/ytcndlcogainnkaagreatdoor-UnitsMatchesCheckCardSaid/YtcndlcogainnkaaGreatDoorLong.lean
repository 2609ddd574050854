/-
  Long division, bit by bit: what the quotient and the rest are behind each bit.
-/
import Derived.Test.YtcndlcogainnkaaGreatDoorDig
namespace Go.Proofs.YtcndlcogainnkaaGreatDoor.dec
open Go.RowKit

/-- The quotient and the rest of A without its k least bits. -/
def qk (A D : Int) (k : Nat) : Int := A / 2 ^ k / D
def rk (A D : Int) (k : Nat) : Int := A / 2 ^ k % D
theorem pw_pos (k : Nat) : (0 : Int) < 2 ^ k := Int.pow_pos (by decide)
theorem half (A : Int) (k : Nat) : A / 2 ^ (k + 1) = A / 2 ^ k / 2 := by
  rw [Int.pow_succ, Int.ediv_ediv_of_nonneg (Int.le_of_lt (pw_pos k))]
theorem top {A : Int} (h0 : 0 ≤ A) (h1 : A < 340282366920938463463374607431768211456) : A / 2 ^ 128 = 0 := Int.ediv_eq_zero_of_lt h0 h1
theorem qk_top {A : Int} (D : Int) (h0 : 0 ≤ A) (h1 : A < 340282366920938463463374607431768211456) : qk A D 128 = 0 := by unfold qk; rw [top h0 h1]; simp
theorem rk_top {A : Int} (D : Int) (h0 : 0 ≤ A) (h1 : A < 340282366920938463463374607431768211456) : rk A D 128 = 0 := by unfold rk; rw [top h0 h1]; simp
theorem qk_zero (A D : Int) : qk A D 0 = A / D := by unfold qk; simp
theorem rk_zero (A D : Int) : rk A D 0 = A % D := by unfold rk; simp
theorem qk_range {A D : Int} (h0 : 0 ≤ A) (hD : 0 < D) (k : Nat) : 0 ≤ qk A D k ∧ qk A D k ≤ A / D := by
  have h : 0 ≤ A / 2 ^ k := Int.ediv_nonneg h0 (Int.le_of_lt (pw_pos k))
  refine ⟨Int.ediv_nonneg h (Int.le_of_lt hD), Int.ediv_le_ediv hD (Int.ediv_le_self _ h0)⟩
theorem rk_range {A D : Int} (hD : 0 < D) (k : Nat) : 0 ≤ rk A D k ∧ rk A D k < D := ⟨Int.emod_nonneg _ (by omega), Int.emod_lt_of_pos _ hD⟩
/-- One bit more. -/
theorem long_step {A D b : Int} (k : Nat) (hD : 0 < D) (hb : A / 2 ^ k % 2 = b) :
    (2 * rk A D (k + 1) + b < D → qk A D k = 2 * qk A D (k + 1) ∧ rk A D k = 2 * rk A D (k + 1) + b) ∧
    (¬ 2 * rk A D (k + 1) + b < D → qk A D k = 2 * qk A D (k + 1) + 1 ∧ rk A D k = 2 * rk A D (k + 1) + b - D) := by
  have r := rk_range (A := A) hD (k + 1)
  have e : A / 2 ^ (k + 1) = D * qk A D (k + 1) + rk A D (k + 1) := (Int.mul_ediv_add_emod _ _).symm
  have e2 : A / 2 ^ k = 2 * (A / 2 ^ (k + 1)) + b := by rw [half]; omega
  rw [e] at e2
  have b0 : 0 ≤ b ∧ b ≤ 1 := by omega
  generalize qk A D (k + 1) = q at *
  generalize rk A D (k + 1) = s at *
  constructor
  · intro h
    have e3 : A / 2 ^ k = (2 * s + b) + 2 * q * D := by rw [e2, Int.mul_comm D q, Int.mul_assoc]; omega
    unfold qk rk
    rw [e3, Int.add_mul_ediv_right _ _ (by omega), Int.add_mul_emod_self_right, Int.ediv_eq_zero_of_lt (by omega) h, Int.emod_eq_of_lt (by omega) h]
    omega
  · intro h
    have e3 : A / 2 ^ k = (2 * s + b - D) + (2 * q + 1) * D := by rw [e2, Int.mul_comm D q, Int.add_mul, Int.mul_assoc]; omega
    unfold qk rk
    rw [e3, Int.add_mul_ediv_right _ _ (by omega), Int.add_mul_emod_self_right, Int.ediv_eq_zero_of_lt (by omega) (by omega), Int.emod_eq_of_lt (by omega) (by omega)]
    omega
theorem low_bit (x : Int) (s : Nat) (hs : s < 16) : x % 65536 / 2 ^ s % 2 = x / 2 ^ s % 2 := by
  have h : s = 0 ∨ s = 1 ∨ s = 2 ∨ s = 3 ∨ s = 4 ∨ s = 5 ∨ s = 6 ∨ s = 7 ∨ s = 8 ∨ s = 9 ∨ s = 10 ∨ s = 11 ∨ s = 12 ∨ s = 13 ∨ s = 14 ∨ s = 15 := by omega
  rcases h with rfl | rfl | rfl | rfl | rfl | rfl | rfl | rfl | rfl | rfl | rfl | rfl | rfl | rfl | rfl | rfl <;> simp only [Int.reducePow] <;> omega
/-- The bit k of A, out of its digits. -/
theorem bit_at {f : Nat → Int} {A : Int} (hf : Dg f A) (h0 : 0 ≤ A) (h1 : A < 340282366920938463463374607431768211456) (j s : Nat) (hj : j < 8) (hs : s < 16) :
    f j / 2 ^ s % 2 = A / 2 ^ (16 * j + s) % 2 := by
  have e : f j = A / 2 ^ (16 * j) % 65536 := by
    have l := eight hf.lo; have u := eight hf.hi; have v := hf.val
    unfold val at v
    have h : j = 0 ∨ j = 1 ∨ j = 2 ∨ j = 3 ∨ j = 4 ∨ j = 5 ∨ j = 6 ∨ j = 7 := by omega
    rcases h with rfl | rfl | rfl | rfl | rfl | rfl | rfl | rfl <;> simp only [Nat.reduceMul, Int.reducePow] <;> omega
  rw [e, low_bit _ _ hs, Int.pow_add, Int.ediv_ediv_of_nonneg (Int.le_of_lt (pw_pos _))]
end Go.Proofs.YtcndlcogainnkaaGreatDoor.dec

/-
  Products digit by digit: what the two loops of the specification's Scale have added up.
-/
import Derived.Test.YtdppmppipbbepaaDig
namespace Go.Proofs.Ytdppmppipbbepaa
open Go.RowKit

/-- The sums behind i rounds of the outer loop. -/
def cv (f g : Nat → Int) : Nat → Nat → Int
  | 0, _ => 0
  | i + 1, j => cv f g i j + if i ≤ j then f i * g (j - i) else 0
/-- .. and k rounds of the inner one. -/
def cw (f g : Nat → Int) (i k j : Nat) : Int := cv f g i j + if i ≤ j ∧ j < i + k then f i * g (j - i) else 0
theorem cw_zero (f g : Nat → Int) (i j : Nat) : cw f g i 0 j = cv f g i j := by unfold cw; rw [if_neg (by omega), Int.add_zero]
theorem cw_full (f g : Nat → Int) (i k j : Nat) (hk : 8 ≤ i + k) (hj : j < 8) : cw f g i k j = cv f g (i + 1) j := by
  unfold cw
  rw [cv]
  by_cases h : i ≤ j
  · rw [if_pos ⟨h, by omega⟩, if_pos h]
  · rw [if_neg (by omega), if_neg h]
theorem cw_at (f g : Nat → Int) (i k : Nat) : cw f g i k (i + k) = cv f g i (i + k) := by unfold cw; rw [if_neg (by omega), Int.add_zero]
theorem cw_step (f g : Nat → Int) (i k j : Nat) : (if j = i + k then cv f g i (i + k) + f i * g k else cw f g i k j) = cw f g i (k + 1) j := by
  by_cases h : j = i + k
  · subst h
    rw [if_pos rfl]
    unfold cw
    rw [if_pos ⟨by omega, by omega⟩, show i + k - i = k from by omega]
  · rw [if_neg h]
    unfold cw
    by_cases h' : i ≤ j ∧ j < i + k
    · rw [if_pos h', if_pos ⟨h'.1, by omega⟩]
    · rw [if_neg h', if_neg (by omega)]
theorem prod_range {x y : Int} (x0 : 0 ≤ x) (x1 : x ≤ 65535) (y0 : 0 ≤ y) (y1 : y ≤ 65535) : 0 ≤ x * y ∧ x * y ≤ 4294836225 := by
  have h := Int.mul_le_mul x1 y1 y0 (by omega)
  exact ⟨Int.mul_nonneg x0 y0, by omega⟩
theorem cv_range {f g : Nat → Int} (f0 : ∀ j, j < 8 → 0 ≤ f j) (f1 : ∀ j, j < 8 → f j ≤ 65535) (g0 : ∀ j, j < 8 → 0 ≤ g j) (g1 : ∀ j, j < 8 → g j ≤ 65535) (i : Nat) (hi : i ≤ 8) (j : Nat) (hj : j < 8) :
    0 ≤ cv f g i j ∧ cv f g i j ≤ 4294836225 * i := by
  induction i with
  | zero => simp [cv]
  | succ i ih =>
    have h := ih (by omega)
    rw [cv]
    by_cases h' : i ≤ j
    · rw [if_pos h']
      have := prod_range (f0 i (by omega)) (f1 i (by omega)) (g0 (j - i) (by omega)) (g1 (j - i) (by omega))
      omega
    · rw [if_neg h']
      omega

theorem mul_val (x : Int) (g : Nat → Int) : x * val g = x * g 0 + x * g 1 * 65536 + x * g 2 * 4294967296 + x * g 3 * 281474976710656 + (x * g 4 + x * g 5 * 65536 + x * g 6 * 4294967296 + x * g 7 * 281474976710656) * 18446744073709551616 := by
  unfold val
  simp only [Int.mul_add, ← Int.mul_assoc]
theorem val_mul (f : Nat → Int) (V : Int) : val f * V = f 0 * V + f 1 * V * 65536 + f 2 * V * 4294967296 + f 3 * V * 281474976710656 + (f 4 * V + f 5 * V * 65536 + f 6 * V * 4294967296 + f 7 * V * 281474976710656) * 18446744073709551616 := by
  have h : ∀ i (c : Int), f i * c * V = f i * V * c := fun i c => Int.mul_right_comm _ _ _
  have h' : ∀ x c : Int, x * c * V = x * V * c := fun x c => Int.mul_right_comm _ _ _
  unfold val
  simp only [Int.add_mul, h, h']
theorem conv_val (f g : Nat → Int) : val (cv f g 8) % 340282366920938463463374607431768211456 = val f * val g % 340282366920938463463374607431768211456 := by
  rw [val_mul, mul_val, mul_val, mul_val, mul_val, mul_val, mul_val, mul_val, mul_val]
  unfold val
  simp only [cv]
  simp only [Nat.le_refl, if_true, Nat.zero_le, Nat.sub_zero, Nat.sub_self, show ¬ (1 ≤ 0) from by decide, if_false]
  simp
  omega
theorem conv_dg {f g : Nat → Int} {a n : Int} (hf : Dg f a) (hg : Dg g n) : val (cv f g 8) % 340282366920938463463374607431768211456 = (a * n) % 340282366920938463463374607431768211456 := by
  rw [conv_val, Int.mul_emod, hf.val, hg.val, ← Int.mul_emod]
end Go.Proofs.Ytdppmppipbbepaa

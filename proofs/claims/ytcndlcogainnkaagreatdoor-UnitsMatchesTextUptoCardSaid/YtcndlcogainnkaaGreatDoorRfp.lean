/-
  What the reference's factor makes of a text, as plain data.
-/
import Derived.Test.YtcndlcogainnkaaGreatDoorTx
namespace Go.Proofs.YtcndlcogainnkaaGreatDoor
open Go.RowKit

/-- The digits of an exponent: at most k bytes are read. -/
def fdig : Nat → List UInt8 → Int → Bool → Int × Bool
  | 0, _, n, m => (n, m)
  | _ + 1, [], n, m => (n, m)
  | k + 1, c :: r, n, m => if c = 45 then fdig k r n true else fdig k r (10 * n + (c.toNat : Int) - 48) m
def fdv (l : List UInt8) : Int := if (fdig 3 l 0 false).2 = true then -(fdig 3 l 0 false).1 else (fdig 3 l 0 false).1
def rfac (l : List UInt8) : Fa :=
  if Lib.indexByte l 94 = -1 then (⟨l.toArray⟩, 1)
  else (⟨(l.take (Lib.indexByte l 94).toNat).toArray⟩, fdv (l.drop ((Lib.indexByte l 94).toNat + 1)))
theorem fdig_few {n : Int} (h : far n = false) : fdv (Lib.itoa n) = n := by
  rcases exp_cases h with rfl | rfl | rfl | rfl | rfl | rfl | rfl | rfl | rfl | rfl | rfl | rfl | rfl | rfl | rfl | rfl | rfl
  all_goals unfold Lib.itoa
  all_goals first
    | rw [if_pos (by decide), dec_small (by decide)]
    | rw [if_neg (by decide), dec_small (by decide)]
  all_goals decide
theorem rfac_f1 {x : Fa} (h1 : word x.1 = true) (h2 : far x.2 = false) : rfac (f1 x) = x := by
  have h94 : (94 : UInt8) ∉ x.1.data.toList := fun hm => (wch_ne (word_ch h1 _ hm)).2 rfl
  unfold rfac f1
  split
  · rename_i h
    rw [if_pos (ix_out h94)]
    exact Prod.ext (ba_eq x.1) h.symm
  · rw [ix_at _ _ _ h94, if_neg (by omega), Int.toNat_natCast]
    refine Prod.ext ?_ ?_
    · show (⟨((x.1.data.toList ++ 94 :: Lib.itoa x.2).take x.1.data.toList.length).toArray⟩ : ByteArray) = x.1
      rw [List.take_left]
    · show fdv ((x.1.data.toList ++ 94 :: Lib.itoa x.2).drop (x.1.data.toList.length + 1)) = x.2
      rw [drop_past]
      exact fdig_few h2
/-- No exponent that is read is far from what an int holds. -/
theorem fdig_le : ∀ (k : Nat) (l : List UInt8) (n : Int) (m : Bool) (b : Int), 0 ≤ b → -b ≤ n → n ≤ b → -(10 ^ k * (b + 300)) ≤ (fdig k l n m).1 ∧ (fdig k l n m).1 ≤ 10 ^ k * (b + 300)
  | 0, l, n, m, b, h0, h1, h2 => by simp only [fdig, Int.pow_zero]; omega
  | k + 1, [], n, m, b, h0, h1, h2 => by
    have hp : (1 : Int) ≤ 10 ^ (k + 1) := by
      have : (0 : Int) < 10 ^ (k + 1) := Int.pow_pos (by decide)
      omega
    have := Int.mul_le_mul_of_nonneg_right hp (show (0 : Int) ≤ b + 300 by omega)
    simp only [fdig]
    omega
  | k + 1, c :: r, n, m, b, h0, h1, h2 => by
    have hc := c.toNat_lt
    have hp : (0 : Int) < 10 ^ k := Int.pow_pos (by decide)
    have hm := Int.mul_le_mul_of_nonneg_left (show b + 300 ≤ 10 * (b + 300) by omega) (Int.le_of_lt hp)
    rw [show (10 : Int) ^ (k + 1) * (b + 300) = 10 ^ k * (10 * (b + 300)) by rw [Int.pow_succ, Int.mul_assoc]]
    unfold fdig
    split
    · have := fdig_le k r n true b h0 h1 h2
      omega
    · have := fdig_le k r (10 * n + (c.toNat : Int) - 48) m (10 * b + 2700) (by omega) (by omega) (by omega)
      rw [show 10 * b + 2700 + 300 = 10 * (b + 300) by omega] at this
      exact this
end Go.Proofs.YtcndlcogainnkaaGreatDoor

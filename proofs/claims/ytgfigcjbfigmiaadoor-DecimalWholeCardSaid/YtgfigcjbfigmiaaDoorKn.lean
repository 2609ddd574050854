/-
  The arithmetic of a division of two digits by one, in base 2^32, by Knuth's algorithm D.
-/
import Derived.WalkKit
import Derived.Laws.Bits64b
import Derived.Lib.ItoaNum
import Derived.Lib.BitFns
namespace Go.Proofs.YtgfigcjbfigmiaaDoor
open Go.RowKit

/-- The digit: how often y goes into u * 2^32 + v. -/
def dig (u v y : Int) : Int := (u * 4294967296 + v) / y

structure Kn (y y1 y0 u v : Int) : Prop where
  ey : y = y1 * 4294967296 + y0
  y1a : 2147483648 ≤ y1
  y1b : y1 ≤ 4294967295
  y0a : 0 ≤ y0
  y0b : y0 ≤ 4294967295
  u0 : 0 ≤ u
  u1 : u < y
  v0 : 0 ≤ v
  v1 : v ≤ 4294967295

section
variable {y y1 y0 u v q r : Int}
theorem Kn.pos (K : Kn y y1 y0 u v) : 0 < y := by have := K.ey; have := K.y1a; have := K.y0a; omega
theorem Kn.lt (K : Kn y y1 y0 u v) : dig u v y < 4294967296 := by
  unfold dig; rw [Int.ediv_lt_iff_lt_mul K.pos]; have := K.u1; have := K.v1; omega
theorem Kn.nonneg (K : Kn y y1 y0 u v) : 0 ≤ dig u v y := by
  unfold dig; rw [Int.le_ediv_iff_mul_le K.pos]; have := K.u0; have := K.v0; omega
theorem Kn.test (K : Kn y y1 y0 u v) (h : q * y1 + r = u) : q * y0 ≤ 4294967296 * r + v ↔ q ≤ dig u v y := by
  unfold dig
  rw [Int.le_ediv_iff_mul_le K.pos, K.ey, Int.mul_add, ← Int.mul_assoc]
  generalize q * y1 = m at *
  generalize q * y0 = p
  omega
theorem Kn.start (K : Kn y y1 y0 u v) : dig u v y ≤ u / y1 ∧ u / y1 ≤ 4294967297 := by
  have hy := K.ey; have a := K.y1a; have b := K.y1b; have c := K.y0a; have d := K.y0b; have e := K.u1; have f := K.v1
  constructor
  · rw [Int.le_ediv_iff_mul_le (by omega)]
    have h := Int.ediv_mul_le (u * 4294967296 + v) (b := y) (by have := K.pos; omega)
    have h0 := Int.mul_nonneg K.nonneg c
    change dig u v y * y ≤ _ at h
    rw [hy, Int.mul_add, ← Int.mul_assoc, ← hy] at h
    generalize dig u v y * y1 = m at *
    generalize dig u v y * y0 = p at *
    omega
  · have : u / y1 < 4294967298 := by rw [Int.ediv_lt_iff_lt_mul (by omega)]; omega
    omega
theorem Kn.out (K : Kn y y1 y0 u v) (h : q * y1 + r = u) (h1 : q ≤ 4294967296) (h2 : 4294967296 ≤ r) : q ≤ dig u v y := by
  rw [← K.test h]
  have a := K.y0a; have b := K.y0b; have c := K.v0
  have m := Int.mul_le_mul h1 b a (by omega)
  omega
theorem Kn.rest (K : Kn y y1 y0 u v) : 0 ≤ u * 4294967296 + v - dig u v y * y ∧ u * 4294967296 + v - dig u v y * y < y := by
  have e : u * 4294967296 + v - dig u v y * y = (u * 4294967296 + v) % y := by rw [Int.emod_def]; unfold dig; rw [Int.mul_comm y]
  rw [e]
  exact ⟨Int.emod_nonneg _ (by have := K.pos; omega), Int.emod_lt_of_pos _ K.pos⟩
end
/-- The rest: what the digit leaves. -/
def rst (u v y : Int) : Int := u * 4294967296 + v - dig u v y * y

/-- What a loop of the algorithm knows of its guess q and its rest r. -/
def Guess (y1 u Q q r : Int) : Prop := Q ≤ q ∧ q ≤ 4294967297 ∧ q * y1 + r = u

theorem step_eq {y1 u q r : Int} (h : q * y1 + r = u) : (q - 1) * y1 + (r + y1) = u := by rw [Int.sub_mul]; omega
theorem wrap_rst {u v y : Int} (h0 : 0 ≤ rst u v y) (h1 : rst u v y ≤ 18446744073709551615) :
    IntKind.u64.wrap (IntKind.u64.wrap (IntKind.u64.wrap (u * 4294967296) + v) - IntKind.u64.wrap (dig u v y * y)) = rst u v y := by
  unfold rst at *
  simp only [IntKind.wrap_u64]
  generalize dig u v y * y = m at *
  omega

/-- Two digits give the quotient and the rest. -/
theorem two_digits {N y s u l v1 v0 Y : Int} (_hs : 0 < s) (hN : N * s = u * 18446744073709551616 + l) (hY : Y = y * s) (hy : 0 < y) (hl : l = v1 * 4294967296 + v0) (a : 0 ≤ rst (rst u v1 Y) v0 Y) (b : rst (rst u v1 Y) v0 Y < Y) :
    dig u v1 Y * 4294967296 + dig (rst u v1 Y) v0 Y = N / y ∧ rst (rst u v1 Y) v0 Y / s = N % y := by
  have e1 : u * 4294967296 + v1 = dig u v1 Y * Y + rst u v1 Y := by unfold rst; omega
  have e2 : rst u v1 Y * 4294967296 + v0 = dig (rst u v1 Y) v0 Y * Y + rst (rst u v1 Y) v0 Y := by
    have : rst (rst u v1 Y) v0 Y = rst u v1 Y * 4294967296 + v0 - dig (rst u v1 Y) v0 Y * Y := rfl
    omega
  generalize dig u v1 Y = q1 at *
  generalize rst u v1 Y = r1 at *
  generalize dig r1 v0 Y = q0 at *
  generalize rst r1 v0 Y = R at *
  have e3 : N * s = (q1 * 4294967296 + q0) * Y + R := by
    rw [Int.add_mul, Int.mul_assoc, Int.mul_comm 4294967296 Y, ← Int.mul_assoc]
    generalize q1 * Y = m1 at *
    generalize q0 * Y = m0 at *
    omega
  rw [hY, ← Int.mul_assoc] at e3
  have e4 : R = (N - (q1 * 4294967296 + q0) * y) * s := by rw [Int.sub_mul]; omega
  generalize q1 * 4294967296 + q0 = q at *
  have hpos := _hs
  have f1 : R / s = N - q * y := by rw [e4]; exact Int.mul_ediv_cancel _ (by omega)
  have g1 : 0 ≤ N - q * y := by
    rcases Int.lt_or_le (N - q * y) 0 with h | h
    · have := Int.mul_neg_of_neg_of_pos h hpos; omega
    · exact h
  have g2 : N - q * y < y := by
    rw [e4, hY] at b
    exact Int.lt_of_mul_lt_mul_right b (by omega)
  have f2 : N / y = q := by
    have : N = (N - q * y) + q * y := by omega
    rw [this, Int.add_mul_ediv_right _ _ (by omega), Int.ediv_eq_zero_of_lt g1 g2]
    omega
  have f3 : N % y = N - q * y := by rw [Int.emod_def, f2, Int.mul_comm y]
  exact ⟨f2.symm, by rw [f1, f3]⟩

/-! The normalization: y is shifted until its highest bit is set. -/
theorem norm_nat (y : Nat) (h0 : 1 ≤ y) (h1 : y < 18446744073709551616) :
    ∃ s : Nat, s ≤ 63 ∧ 64 - (Lib.bitLen y : Int) = s ∧ 9223372036854775808 ≤ y * 2 ^ s ∧ y * 2 ^ s < 18446744073709551616 := by
  obtain ⟨a, b, c⟩ := Lib.bitLenAux_bounds 64 y (by omega) (by omega)
  have d := Lib.bitLen_le y 64 (by omega) (by omega)
  change 1 ≤ Lib.bitLen y at a
  change 2 ^ (Lib.bitLen y - 1) ≤ y at b
  change y < 2 ^ Lib.bitLen y at c
  generalize Lib.bitLen y = L at *
  refine ⟨64 - L, by omega, by omega, ?_, ?_⟩
  · have e : 2 ^ (L - 1) * 2 ^ (64 - L) = 9223372036854775808 := by
      rw [← Nat.pow_add, show L - 1 + (64 - L) = 63 from by omega]
    rw [← e]
    exact Nat.mul_le_mul_right _ b
  · have e : 2 ^ L * 2 ^ (64 - L) = 18446744073709551616 := by
      rw [← Nat.pow_add, show L + (64 - L) = 64 from by omega]
    rw [← e]
    exact Nat.mul_lt_mul_of_pos_right c (Nat.two_pow_pos _)
theorem shift_nat (hi lo s : Nat) (hs : s ≤ 63) :
    (hi * 18446744073709551616 + lo) * 2 ^ s = (hi * 2 ^ s + lo / 2 ^ (64 - s)) * 18446744073709551616 + lo * 2 ^ s % 18446744073709551616 := by
  have e : 2 ^ (64 - s) * 2 ^ s = 18446744073709551616 := by
    rw [← Nat.pow_add, show 64 - s + s = 64 from by omega]
  have d : lo * 2 ^ s / 18446744073709551616 = lo / 2 ^ (64 - s) := by
    rw [← e]; exact Nat.mul_div_mul_right _ _ (Nat.two_pow_pos _)
  rw [← d, Nat.add_mul, Nat.mul_right_comm]
  generalize hi * 2 ^ s = m
  generalize lo * 2 ^ s = k
  omega
theorem or_nat (hi lo s : Nat) (hs : s ≤ 63) (hlo : lo < 18446744073709551616) : hi * 2 ^ s ||| lo / 2 ^ (64 - s) = hi * 2 ^ s + lo / 2 ^ (64 - s) := by
  have e : 2 ^ (64 - s) * 2 ^ s = 18446744073709551616 := by
    rw [← Nat.pow_add, show 64 - s + s = 64 from by omega]
  have h : lo / 2 ^ (64 - s) < 2 ^ s := Nat.div_lt_of_lt_mul (by rw [e]; exact hlo)
  rw [Nat.mul_comm hi]
  exact (Nat.two_pow_add_eq_or_of_lt h hi).symm
theorem and_low (a : Int) (h0 : 0 ≤ a) (h1 : a ≤ 18446744073709551615) : bits .and .u64 a 4294967295 = a % 4294967296 := by
  obtain ⟨n, rfl⟩ := Int.eq_ofNat_of_zero_le h0
  have h := bits_and_u64_nat n 4294967295 (by omega) (by omega)
  have e : n &&& 4294967295 = n % 4294967296 := Nat.and_two_pow_sub_one_eq_mod n 32
  rw [e] at h
  exact h

/-- All that the division asks of the shift s, in the spelling of the program's steps. -/
structure Norm (hi lo y s Y u l : Int) : Prop where
  s0 : 0 ≤ s
  s1 : s ≤ 63
  len : 64 - (Lib.bitLen y.toNat : Int) = s
  wY : IntKind.u64.wrap (y * 2 ^ s.toNat) = Y
  Y0 : 9223372036854775808 ≤ Y
  Y1 : Y ≤ 18446744073709551615
  wu : bits BinOp.or IntKind.u64 (IntKind.u64.wrap (hi * 2 ^ s.toNat)) (lo / 2 ^ (64 - s).toNat) = u
  u0 : 0 ≤ u
  u1 : u < Y
  wl : IntKind.u64.wrap (lo * 2 ^ s.toNat) = l
  l0 : 0 ≤ l
  l1 : l ≤ 18446744073709551615
  pos : (0 : Int) < 2 ^ s.toNat
  eY : Y = y * 2 ^ s.toNat
  eN : (hi * 18446744073709551616 + lo) * 2 ^ s.toNat = u * 18446744073709551616 + l

theorem norm_any (hi lo y : Int) (h1 : 0 ≤ hi) (h2 : hi < y) (h3 : y ≤ 18446744073709551615) (h4 : 0 ≤ lo) (h5 : lo ≤ 18446744073709551615) :
    ∃ s Y u l, Norm hi lo y s Y u l := by
  obtain ⟨hi, rfl⟩ := Int.eq_ofNat_of_zero_le h1
  obtain ⟨lo, rfl⟩ := Int.eq_ofNat_of_zero_le h4
  obtain ⟨y, rfl⟩ := Int.eq_ofNat_of_zero_le (show 0 ≤ y from by omega)
  obtain ⟨s, hs, hl, ha, hb⟩ := norm_nat y (by omega) (by omega)
  have hsh := shift_nat hi lo s hs
  have hor := or_nat hi lo s hs (by omega)
  have hlt : hi * 2 ^ s + 2 ^ s ≤ y * 2 ^ s := by
    have := Nat.mul_le_mul_right (2 ^ s) (show hi + 1 ≤ y from by omega)
    rw [Nat.add_mul] at this; omega
  have hd : lo / 2 ^ (64 - s) < 2 ^ s := Nat.div_lt_of_lt_mul (by
    rw [← Nat.pow_add, show 64 - s + s = 64 from by omega]; omega)
  have hp : 0 < 2 ^ s := Nat.two_pow_pos _
  have c2 : ((2 ^ s : Nat) : Int) = (2 : Int) ^ s := by simp
  have c3 : ((2 ^ (64 - s) : Nat) : Int) = (2 : Int) ^ (64 - s) := by simp
  have t1 : ((s : Int)).toNat = s := rfl
  have t2 : (64 - (s : Int)).toNat = 64 - s := by omega
  refine ⟨s, ((y * 2 ^ s : Nat) : Int), ((hi * 2 ^ s + lo / 2 ^ (64 - s) : Nat) : Int), ((lo * 2 ^ s % 18446744073709551616 : Nat) : Int), ?_⟩
  have wY : IntKind.u64.wrap ((y : Int) * 2 ^ s) = ((y * 2 ^ s : Nat) : Int) := by
    rw [← c2, ← Int.natCast_mul, IntKind.wrap_u64]; omega
  have wH : IntKind.u64.wrap ((hi : Int) * 2 ^ s) = ((hi * 2 ^ s : Nat) : Int) := by
    rw [← c2, ← Int.natCast_mul, IntKind.wrap_u64]; omega
  have wL : IntKind.u64.wrap ((lo : Int) * 2 ^ s) = ((lo * 2 ^ s % 18446744073709551616 : Nat) : Int) := by
    rw [← c2, ← Int.natCast_mul, IntKind.wrap_u64]; omega
  have wU : bits BinOp.or IntKind.u64 (IntKind.u64.wrap ((hi : Int) * 2 ^ s)) ((lo : Int) / 2 ^ (64 - s)) = ((hi * 2 ^ s + lo / 2 ^ (64 - s) : Nat) : Int) := by
    rw [wH, ← c3, ← Int.natCast_ediv, bits_or_u64_nat _ _ (by omega) (by omega), hor]
  have eN : ((hi : Int) * 18446744073709551616 + lo) * 2 ^ s = ((hi * 2 ^ s + lo / 2 ^ (64 - s) : Nat) : Int) * 18446744073709551616 + ((lo * 2 ^ s % 18446744073709551616 : Nat) : Int) := by
    rw [← c2]
    generalize hi * 2 ^ s + lo / 2 ^ (64 - s) = A at hsh ⊢
    generalize lo * 2 ^ s % 18446744073709551616 = B at hsh ⊢
    generalize 2 ^ s = p at hsh ⊢
    have h := congrArg (fun x : Nat => (x : Int)) hsh
    simp only [Int.natCast_add, Int.natCast_mul] at h
    exact h
  constructor
  case s0 => omega
  case s1 => omega
  case len => rw [Int.toNat_natCast]; exact hl
  case wY => rw [t1]; exact wY
  case Y0 => omega
  case Y1 => omega
  case wu => rw [t1, t2]; exact wU
  case u0 => omega
  case u1 => omega
  case wl => rw [t1]; exact wL
  case l0 => omega
  case l1 => omega
  case pos => rw [t1, ← c2]; omega
  case eY => rw [t1, ← c2, Int.natCast_mul]
  case eN => rw [t1]; exact eN
end Go.Proofs.YtgfigcjbfigmiaaDoor

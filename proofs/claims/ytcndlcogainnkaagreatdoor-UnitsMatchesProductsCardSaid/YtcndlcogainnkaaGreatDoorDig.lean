/-
  The specification's digits in base 65536: lists of eight ints that stand for a number modulo 2^128.
-/
import Derived.Test.YtcndlcogainnkaaGreatDoorDecB
import Derived.Laws.AppendOwn
namespace Go.Proofs.YtcndlcogainnkaaGreatDoor.dec
open Go.RowKit

/-- n without its k least digits. -/
def shr (n : Int) : Nat → Int
  | 0 => n
  | k + 1 => shr n k / 65536
/-- The k least digits of n. -/
def dl (n : Int) : Nat → List Int
  | 0 => []
  | k + 1 => dl n k ++ [shr n k % 65536]
theorem dl_length (n : Int) (k : Nat) : (dl n k).length = k := by induction k <;> simp_all [dl]
theorem shr_range {n : Int} (h0 : 0 ≤ n) (h1 : n ≤ 18446744073709551615) (k : Nat) : 0 ≤ shr n k ∧ shr n k ≤ 18446744073709551615 := by
  induction k with
  | zero => exact ⟨h0, h1⟩
  | succ k ih => simp only [shr]; omega

/-- The upper half, without a sign. -/
def hu (n : Int) : Int := IntKind.u64.wrap (hi n)
theorem hu_eq (n : Int) : hu n = n / 18446744073709551616 % 18446744073709551616 := by unfold hu; rw [IntKind.wrap_u64]; unfold hi; omega
theorem hu_range (n : Int) : 0 ≤ hu n ∧ hu n ≤ 18446744073709551615 := by rw [hu_eq]; omega

/-- What eight digits stand for. -/
def val (f : Nat → Int) : Int := f 0 + f 1 * 65536 + f 2 * 4294967296 + f 3 * 281474976710656 + (f 4 + f 5 * 65536 + f 6 * 4294967296 + f 7 * 281474976710656) * 18446744073709551616
/-- The digits of a: each from 0 to 65535, and together a modulo 2^128. -/
structure Dg (f : Nat → Int) (a : Int) : Prop where
  lo : ∀ j, j < 8 → 0 ≤ f j
  hi : ∀ j, j < 8 → f j ≤ 65535
  val : val f % 340282366920938463463374607431768211456 = a % 340282366920938463463374607431768211456
theorem eight {P : Nat → Prop} (h : ∀ j, j < 8 → P j) : P 0 ∧ P 1 ∧ P 2 ∧ P 3 ∧ P 4 ∧ P 5 ∧ P 6 ∧ P 7 := ⟨h 0 (by decide), h 1 (by decide), h 2 (by decide), h 3 (by decide), h 4 (by decide), h 5 (by decide), h 6 (by decide), h 7 (by decide)⟩
theorem of_eight {P : Nat → Prop} (h0 : P 0) (h1 : P 1) (h2 : P 2) (h3 : P 3) (h4 : P 4) (h5 : P 5) (h6 : P 6) (h7 : P 7) : ∀ j, j < 8 → P j
  | 0, _ => h0 | 1, _ => h1 | 2, _ => h2 | 3, _ => h3 | 4, _ => h4 | 5, _ => h5 | 6, _ => h6 | 7, _ => h7
/-- The digits that Digits returns. -/
def dgs (n : Int) : List Int := dl (lo n) 4 ++ dl (hu n) 4
theorem dgs_dg (n : Int) : Dg (fun j => (dgs n).getD j 0) n := by
  have h1 := lo_range n
  have h2 := hu_range n
  have h3 : hu n = n / 18446744073709551616 % 18446744073709551616 := hu_eq n
  have h4 : lo n = n % 18446744073709551616 := rfl
  unfold dgs
  simp only [dl, shr, List.nil_append, List.cons_append]
  generalize lo n = l at *
  generalize hu n = u at *
  constructor
  · exact of_eight (by simp; omega) (by simp; omega) (by simp; omega) (by simp; omega) (by simp; omega) (by simp; omega) (by simp; omega) (by simp; omega)
  · exact of_eight (by simp; omega) (by simp; omega) (by simp; omega) (by simp; omega) (by simp; omega) (by simp; omega) (by simp; omega) (by simp; omega)
  · simp [val]; omega

/-- What carry hands on to the digit i. -/
def cm (f : Nat → Int) : Nat → Int
  | 0 => 0
  | i + 1 => (f i + cm f i) / 65536
/-- The digits that carry returns. -/
def cl (f : Nat → Int) : Nat → List Int
  | 0 => []
  | i + 1 => cl f i ++ [(f i + cm f i) % 65536]
theorem cl_length (f : Nat → Int) (k : Nat) : (cl f k).length = k := by induction k <;> simp_all [cl]
theorem cm_range {f : Nat → Int} (h0 : ∀ j, j < 8 → -1099511627776 ≤ f j) (h1 : ∀ j, j < 8 → f j ≤ 1099511627776) (i : Nat) (hi : i ≤ 8) : -1099511627776 ≤ cm f i ∧ cm f i ≤ 1099511627776 := by
  induction i with
  | zero => simp [cm]
  | succ i ih =>
    have := ih (by omega)
    have := h0 i (by omega)
    have := h1 i (by omega)
    simp only [cm]; omega
theorem cl_dg (f : Nat → Int) : Dg (fun j => (cl f 8).getD j 0) (val f) := by
  simp only [cl, cm, List.nil_append, List.cons_append]
  generalize e0 : f 0 + 0 = s0
  generalize e1 : f 1 + s0 / 65536 = s1
  generalize e2 : f 2 + s1 / 65536 = s2
  generalize e3 : f 3 + s2 / 65536 = s3
  generalize e4 : f 4 + s3 / 65536 = s4
  generalize e5 : f 5 + s4 / 65536 = s5
  generalize e6 : f 6 + s5 / 65536 = s6
  generalize e7 : f 7 + s6 / 65536 = s7
  constructor
  · exact of_eight (by simp; omega) (by simp; omega) (by simp; omega) (by simp; omega) (by simp; omega) (by simp; omega) (by simp; omega) (by simp; omega)
  · exact of_eight (by simp; omega) (by simp; omega) (by simp; omega) (by simp; omega) (by simp; omega) (by simp; omega) (by simp; omega) (by simp; omega)
  · simp [val]; omega
theorem val_add {f g : Nat → Int} {a b : Int} (hf : Dg f a) (hg : Dg g b) : val (fun j => f j + g j) % 340282366920938463463374607431768211456 = (a + b) % 340282366920938463463374607431768211456 := by
  have h := hf.val; have k := hg.val; unfold val at *; dsimp only at *; omega
theorem val_sub {f g : Nat → Int} {a b : Int} (hf : Dg f a) (hg : Dg g b) : val (fun j => f j - g j) % 340282366920938463463374607431768211456 = (a - b) % 340282366920938463463374607431768211456 := by
  have h := hf.val; have k := hg.val; unfold val at *; dsimp only at *; omega
theorem Dg.congr {f : Nat → Int} {a b : Int} (h : Dg f a) (e : a % 340282366920938463463374607431768211456 = b % 340282366920938463463374607431768211456) : Dg f b := ⟨h.lo, h.hi, h.val.trans e⟩
/-- The lower and the upper half of eight digits. -/
def lo4 (f : Nat → Int) : Int := ((f 3 * 65536 + f 2) * 65536 + f 1) * 65536 + f 0
def hi4 (f : Nat → Int) : Int := ((f 7 * 65536 + f 6) * 65536 + f 5) * 65536 + f 4
theorem make_lo {f : Nat → Int} {a : Int} (h : Dg f a) : lo4 f = lo a := by
  have l := eight h.lo; have u := eight h.hi; have v := h.val; unfold val at v; unfold lo4 lo; omega
theorem make_hi {f : Nat → Int} {a : Int} (h : Dg f a) : wrap64 (hi4 f) = hi a := by
  have l := eight h.lo; have u := eight h.hi; have v := h.val; unfold val at v; unfold hi4 hi wrap64; omega
end Go.Proofs.YtcndlcogainnkaaGreatDoor.dec

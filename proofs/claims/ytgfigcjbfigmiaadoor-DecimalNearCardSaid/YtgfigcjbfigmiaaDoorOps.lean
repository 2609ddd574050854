/-
  The contracts of package exact's straight functions: each returns the pair that stands for the sum, the difference, the product.
-/
import Derived.Test.YtgfigcjbfigmiaaDoorChecked
import Derived.Test.YtgfigcjbfigmiaaDoorNum
import Derived.WalkKit
import Derived.WalkLawsBesides
import Derived.OpenShut
import Derived.Outline
import Derived.Laws.Externs
import Derived.StillTailTactics
import Derived.Laws.Pointers
import Derived.Deep.RegionHeld3
import Derived.Deep.QuietTactic
import Derived.BigQuiet
import Derived.RowKit3
import Derived.Shelf.Bits.Mul64
import Derived.Lib.Hide
namespace Go.Proofs.YtgfigcjbfigmiaaDoor
open Go.RowKit Go.Shelf

theorem add64 (x y : Int) (hx : 0 ≤ x) (hy : 0 ≤ y) (w : World) : (callFunc 46 #[.int .u64 x, .int .u64 y, .int .u64 0]).run Tryd.prog w =
    .ok (.value (.tuple #[.int .u64 ((x + y) % 18446744073709551616), .int .u64 ((x + y) / 18446744073709551616)])) w := by
  rw [run_callFunc_extern Tryd.func46 (by kernel_rfl) (by kernel_rfl) (by kernel_rfl) (e := add64Entry) (by kernel_rfl), run_add64 x y 0 hx hy (Int.le_refl 0) (by decide)]
  simp only [Result.andThen, Int.add_zero]

def subEntry : Array Value → Sem Value := fun args => do
  let (x, y, b) ← Extern.MathBitsCarry.three "Sub64" args
  pure (Extern.MathBitsCarry.pair ((x + Extern.MathBitsCarry.m64 - y - b) % Extern.MathBitsCarry.m64) (if x < y + b then 1 else 0))

theorem sub64 (x y : Int) (hx : 0 ≤ x) (hy : 0 ≤ y) (hy' : y ≤ 18446744073709551615) (w : World) : (callFunc 47 #[.int .u64 x, .int .u64 y, .int .u64 0]).run Tryd.prog w =
    .ok (.value (.tuple #[.int .u64 ((x - y) % 18446744073709551616), .int .u64 (bor x y)])) w := by
  obtain ⟨x, rfl⟩ := Int.eq_ofNat_of_zero_le hx
  obtain ⟨y, rfl⟩ := Int.eq_ofNat_of_zero_le hy
  have e1 : (((x + 18446744073709551616 - y - 0) % 18446744073709551616 : Nat) : Int) = ((x : Int) - y) % 18446744073709551616 := by omega
  have e2 : ((if x < y + 0 then 1 else 0 : Nat) : Int) = bor x y := by unfold bor; split <;> split <;> omega
  rw [← e1, ← e2]
  rw [run_callFunc_extern Tryd.func47 (by kernel_rfl) (by kernel_rfl) (by kernel_rfl) (e := subEntry) (by kernel_rfl)]
  rfl

/-- exact.Add. -/
theorem add_any {x y : Value} {a b : Int} (hx : x = W a) (hy : y = W b) (w : World) :
    Calls Tryd.prog 33 #[x, y] w fun e w' => e = .returned (W (a + b)) ∧ ∃ c1 c2 c3 : Array Value, w' = ((w.alloc (.cells c1 31)).alloc (.cells c2 31)).alloc (.cells c3 31) := by
  subst hx hy
  have ra := lo_range a; have rb := lo_range b; have ha := hi_range a; have hb := hi_range b
  have k0 : 0 ≤ (lo a + lo b) / 18446744073709551616 := by omega
  have k1 : (lo a + lo b) / 18446744073709551616 ≤ 1 := by omega
  obtain ⟨ra1, ra2⟩ := ra; obtain ⟨rb1, rb2⟩ := rb; obtain ⟨ha1, ha2⟩ := ha; obtain ⟨hb1, hb2⟩ := hb
  unfold W
  go_enter Tryd.func33, Tryd.ntmps33
  go_wp2_with (simp only [add64 (lo a) (lo b) ra1 rb1])
  simp [bodyPost, results, Tryd.results33, go_sem]
  exact ⟨⟨add_hi a b, add_lo a b⟩, _, _, _, rfl⟩

/-- exact.Sub. -/
theorem sub_any {x y : Value} {a b : Int} (hx : x = W a) (hy : y = W b) (w : World) :
    Calls Tryd.prog 36 #[x, y] w fun e w' => e = .returned (W (a - b)) ∧ ∃ c1 c2 c3 : Array Value, w' = ((w.alloc (.cells c1 31)).alloc (.cells c2 31)).alloc (.cells c3 31) := by
  subst hx hy
  have ra := lo_range a; have rb := lo_range b; have ha := hi_range a; have hb := hi_range b
  obtain ⟨k0, k1⟩ := bor_range (lo a) (lo b)
  obtain ⟨ra1, ra2⟩ := ra; obtain ⟨rb1, rb2⟩ := rb; obtain ⟨ha1, ha2⟩ := ha; obtain ⟨hb1, hb2⟩ := hb
  unfold W
  go_enter Tryd.func36, Tryd.ntmps36
  go_wp2_with (simp only [sub64 (lo a) (lo b) ra1 rb1 rb2])
  simp [bodyPost, results, Tryd.results36, go_sem]
  exact ⟨⟨sub_hi a b, sub_lo a b⟩, _, _, _, rfl⟩

/-- exact.Neg. -/
theorem neg_any {x : Value} {a : Int} (hx : x = W a) (w : World) :
    Calls Tryd.prog 39 #[x] w fun e w' => e = .returned (W (-a)) ∧ ∃ c1 c2 c3 c4 c5 : Array Value, w' = ((((w.alloc (.cells c1 31)).alloc (.cells c2 31)).alloc (.cells c3 31)).alloc (.cells c4 31)).alloc (.cells c5 31) := by
  subst hx
  unfold W
  go_enter Tryd.func39, Tryd.ntmps39
  go_wp2_with (go_at_call 36; refine (sub_any (a := 0) (b := a) W_zero rfl _).mono ?_; unfold W; rintro e w' ⟨rfl, c1, c2, c3, rfl⟩)
  simp [bodyPost, results, Tryd.results39, go_sem]
  exact ⟨_, _, _, _, _, rfl⟩

/-- exact.signBits. -/
theorem signBits_any (n : Int) (w : World) (_h1 : -9223372036854775808 ≤ n) (_h2 : n ≤ 9223372036854775807) :
    Calls Tryd.prog 38 #[.int .i64 n] w fun e w' => e = .returned (.int .i64 (n / 9223372036854775808)) ∧ w = w' := by
  go_enter Tryd.func38, Tryd.ntmps38
  go_wp2
  go_ret
  exact ⟨rfl, rfl⟩

/-- exact.Of. -/
theorem of_any (n : Int) (w : World) (h1 : -9223372036854775808 ≤ n) (h2 : n ≤ 9223372036854775807) :
    Calls Tryd.prog 26 #[.int .i64 n] w fun e w' => e = .returned (W n) ∧ ∃ c1 : Array Value, w' = w.alloc (.cells c1 31) := by
  go_enter Tryd.func26, Tryd.ntmps26
  go_wp2_with (go_at_call 38; refine (signBits_any _ _ h1 h2).mono ?_; rintro e w' ⟨rfl, rfl⟩)
  unfold W
  rw [of_hi n h1 h2, of_lo]
  simp [bodyPost, results, Tryd.results26, go_sem]
  exact ⟨_, rfl⟩

theorem Tryd.lays264 : Go.Proofs.Lays.n264 Tryd.prog ⟨fun | 264 => 55 | n => n, fun | 53 => 29 | 46 => 55 | n => n, fun | n => n⟩ := {
  mixed := by kernel_rfl
  f264 := Tryd.func55.trans (congrArg some (by kernel_rfl))
  t46 := Tryd.underlying55
  a46 := Tryd.isAgg55
  z46 := Tryd.sizeOf55
  v46 := Tryd.zeroValue55
  t53 := Tryd.underlying29
  a53 := Tryd.isAgg29
  z53 := Tryd.sizeOf29
  v53 := Tryd.zeroValue29 }
theorem mul64 (x y : Int) (w : World) (hx : 0 ≤ x) (hx' : x ≤ 18446744073709551615) (hy : 0 ≤ y) (hy' : y ≤ 18446744073709551615) :
    Calls Tryd.prog 55 #[.int .u64 x, .int .u64 y] w fun e w' => e = .returned (.tuple #[.int .u64 (x * y / 18446744073709551616), .int .u64 (x * y % 18446744073709551616)]) ∧ w = w' := by
  obtain ⟨x, rfl⟩ := Int.eq_ofNat_of_zero_le hx
  obtain ⟨y, rfl⟩ := Int.eq_ofNat_of_zero_le hy
  refine (Any.bits_Mul64 Tryd.lays264 x y (by omega) (by omega) w).mono ?_
  rintro e w' ⟨rfl, rfl⟩
  refine ⟨?_, rfl⟩
  rw [← Int.natCast_mul]
  rfl

/-- exact.product. -/
theorem product_any (x y : Int) (w : World) (hx : 0 ≤ x) (hx' : x ≤ 18446744073709551615) (hy : 0 ≤ y) (hy' : y ≤ 18446744073709551615) :
    Calls Tryd.prog 50 #[.int .u64 x, .int .u64 y] w fun e w' => e = .returned (.agg #[.int .u64 (x * y % 18446744073709551616), .int .u64 (x * y / 18446744073709551616)]) ∧ ∃ c1 : Array Value, w' = w.alloc (.cells c1 50) := by
  go_enter Tryd.func50, Tryd.ntmps50
  go_wp2_with (go_at_call 55; refine (mul64 _ _ _ hx hx' hy hy').mono ?_; rintro e w' ⟨rfl, rfl⟩)
  simp [bodyPost, results, Tryd.results50, go_sem]
  exact ⟨_, rfl⟩
end Go.Proofs.YtgfigcjbfigmiaaDoor

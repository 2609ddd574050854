/-
  Pairs of words as integers, and the operations of package exact on them; division as arithmetic (taken over from stages 1 and 2); exact.Divide and the contracts of packages exact and decimal (taken over from stages 1 and 2)
-/
import Derived.WalkKit
import Derived.WalkLawsBesides
import Derived.OpenShut
import Derived.Outline
import Derived.Laws.Externs
import Derived.StillTailTactics
import Derived.Laws.Pointers
import Derived.Deep.RegionHeld3
import Derived.Deep.QuietTactic
import Derived.BigQuiet
import Derived.RowKit3
import Derived.Shelf.Bits.Mul64
import Derived.Lib.Hide
import Derived.Laws.Bits64b
import Derived.Lib.ItoaNum
import Derived.Lib.BitFns
import Derived.Deep.CutBlock
import Derived.Deep.DeepCutAuto
import Derived.Deep.LoopGhost
import Derived.Shelf.Small.Bits
import Derived.Shelf.Strconv.Itoa0
import Derived.Lib.SmallJoins
import Derived.Lib.QuietBelow
import Derived.Test.YtbahfelnbofjjaaGreatDoorChecked
namespace Go.Proofs.YtbahfelnbofjjaaGreatDoor.dec
open Go.RowKit

/-- The lower half of n modulo 2^128. -/
def lo (n : Int) : Int := n % 18446744073709551616
/-- The upper half of n modulo 2^128, signed. -/
def hi (n : Int) : Int := (n / 18446744073709551616 + 9223372036854775808) % 18446744073709551616 - 9223372036854775808
/-- The pair that stands for n. -/
def W (n : Int) : Value := .agg #[.int .i64 (hi n), .int .u64 (lo n)]

theorem lo_range (n : Int) : 0 ≤ lo n ∧ lo n ≤ 18446744073709551615 := by unfold lo; omega
theorem hi_range (n : Int) : -9223372036854775808 ≤ hi n ∧ hi n ≤ 9223372036854775807 := by unfold hi; omega
theorem wf_hi (n : Int) : (Lit.int .i64 (hi n)).wf = true := by have := hi_range n; exact WalkArith.wf_i64 (by omega)
theorem W_of (h l : Int) (h1 : -9223372036854775808 ≤ h) (h2 : h ≤ 9223372036854775807) (l1 : 0 ≤ l) (l2 : l ≤ 18446744073709551615) :
    Value.agg #[.int .i64 h, .int .u64 l] = W (h * 18446744073709551616 + l) := by
  have e1 : hi (h * 18446744073709551616 + l) = h := by unfold hi; omega
  have e2 : lo (h * 18446744073709551616 + l) = l := by unfold lo; omega
  unfold W; rw [e1, e2]
theorem W_congr {a b : Int} (h : a % 340282366920938463463374607431768211456 = b % 340282366920938463463374607431768211456) : W a = W b := by
  have e1 : hi a = hi b := by unfold hi; omega
  have e2 : lo a = lo b := by unfold lo; omega
  unfold W; rw [e1, e2]
theorem W_inj {a b : Int} (h1 : hi a = hi b) (h2 : lo a = lo b) : a % 340282366920938463463374607431768211456 = b % 340282366920938463463374607431768211456 := by
  unfold hi at h1; unfold lo at h2; omega
theorem W_zero : Value.agg #[.int .i64 0, .int .u64 0] = W 0 := by
  have e1 : hi 0 = 0 := by decide
  have e2 : lo 0 = 0 := by decide
  unfold W; rw [e1, e2]
theorem add_hi (a b : Int) : wrap64 (wrap64 (hi a + hi b) + (lo a + lo b) / 18446744073709551616) = hi (a + b) := by unfold hi lo wrap64; omega
theorem add_lo (a b : Int) : (lo a + lo b) % 18446744073709551616 = lo (a + b) := by unfold lo; omega
/-- The borrow of x - y. -/
def bor (x y : Int) : Int := if x < y then 1 else 0
theorem bor_range (x y : Int) : 0 ≤ bor x y ∧ bor x y ≤ 1 := by unfold bor; split <;> decide
theorem sub_hi (a b : Int) : wrap64 (wrap64 (hi a - hi b) - bor (lo a) (lo b)) = hi (a - b) := by unfold hi lo wrap64 bor; split <;> omega
theorem sub_lo (a b : Int) : (lo a - lo b) % 18446744073709551616 = lo (a - b) := by unfold lo; omega
theorem of_hi (n : Int) (h1 : -9223372036854775808 ≤ n) (h2 : n ≤ 9223372036854775807) : n / 9223372036854775808 = hi n := by unfold hi; omega
theorem of_lo (n : Int) : IntKind.u64.wrap n = lo n := by rw [IntKind.wrap_u64]; unfold lo; rfl
theorem u64_ex (x : Int) : ∃ k, IntKind.u64.wrap x = x + 18446744073709551616 * k := ⟨-(x / 18446744073709551616), by rw [IntKind.wrap_u64]; omega⟩
theorem mul_parts (a n : Int) : ∃ p1 p2 p3 : Int, p1 = (a / 18446744073709551616) * (n / 18446744073709551616) ∧ p2 = (a / 18446744073709551616) * lo n ∧ p3 = lo a * (n / 18446744073709551616) ∧
    a * n = 18446744073709551616 * (18446744073709551616 * p1 + p2 + p3) + lo a * lo n := by
  refine ⟨_, _, _, rfl, rfl, rfl, ?_⟩
  have ea : a = 18446744073709551616 * (a / 18446744073709551616) + lo a := by unfold lo; omega
  have en : n = 18446744073709551616 * (n / 18446744073709551616) + lo n := by unfold lo; omega
  generalize a / 18446744073709551616 = A at *
  generalize n / 18446744073709551616 = S at *
  generalize lo a = la at *
  generalize lo n = ln at *
  subst ea en
  rw [Int.add_mul, Int.mul_add, Int.mul_add, Int.mul_add, Int.mul_add, Int.mul_assoc, Int.mul_assoc, Int.mul_left_comm A, Int.mul_left_comm la]
  omega
theorem scale_lo (a n : Int) : lo a * lo n % 18446744073709551616 = lo (a * n) := by
  obtain ⟨p1, p2, p3, _, _, _, e⟩ := mul_parts a n
  rw [e]; unfold lo; omega
theorem scale_hi (a n : Int) (h1 : -9223372036854775808 ≤ n) (h2 : n ≤ 9223372036854775807) :
    wrap64 (IntKind.u64.wrap (lo a * lo n / 18446744073709551616 + IntKind.u64.wrap (IntKind.u64.wrap (IntKind.u64.wrap (hi a) * lo n) + IntKind.u64.wrap (lo a * IntKind.u64.wrap (n / 9223372036854775808))))) = hi (a * n) := by
  obtain ⟨p1, p2, p3, e1, e2, e3, e⟩ := mul_parts a n
  have hs : n / 9223372036854775808 = n / 18446744073709551616 := by omega
  rw [hs]
  obtain ⟨k0, f0⟩ : ∃ k, hi a = a / 18446744073709551616 + 18446744073709551616 * k := ⟨-((a / 18446744073709551616 + 9223372036854775808) / 18446744073709551616), by unfold hi; omega⟩
  obtain ⟨k1, f1⟩ := u64_ex (hi a)
  obtain ⟨k2, f2⟩ := u64_ex (IntKind.u64.wrap (hi a) * lo n)
  obtain ⟨k3, f3⟩ := u64_ex (n / 18446744073709551616)
  obtain ⟨k4, f4⟩ := u64_ex (lo a * IntKind.u64.wrap (n / 18446744073709551616))
  obtain ⟨k5, f5⟩ := u64_ex (IntKind.u64.wrap (IntKind.u64.wrap (hi a) * lo n) + IntKind.u64.wrap (lo a * IntKind.u64.wrap (n / 18446744073709551616)))
  obtain ⟨k6, f6⟩ := u64_ex (lo a * lo n / 18446744073709551616 + IntKind.u64.wrap (IntKind.u64.wrap (IntKind.u64.wrap (hi a) * lo n) + IntKind.u64.wrap (lo a * IntKind.u64.wrap (n / 18446744073709551616))))
  rw [f6, f5, f2, f4, f1, f3, f0, e]
  rw [Int.add_mul, Int.add_mul, Int.mul_add, Int.mul_assoc, Int.mul_assoc, Int.mul_left_comm (lo a), ← e2, ← e3]
  generalize lo a * lo n = m
  generalize k0 * lo n = m0
  generalize k1 * lo n = m1
  generalize lo a * k3 = m3
  unfold hi wrap64
  omega
/-- n is a signed integer of 128 bits. -/
def In (n : Int) : Prop := -170141183460469231731687303715884105728 ≤ n ∧ n < 170141183460469231731687303715884105728
/-- What exact.Compare answers. -/
def cmp (a b : Int) : Int := if a < b then -1 else if a = b then 0 else 1
theorem cmp_lt {a b : Int} (h : a < b) : cmp a b = -1 := by unfold cmp; rw [if_pos h]
theorem cmp_eq {a b : Int} (h : a = b) : cmp a b = 0 := by unfold cmp; rw [if_neg (by omega), if_pos h]
theorem cmp_gt {a b : Int} (h : b < a) : cmp a b = 1 := by unfold cmp; rw [if_neg (by omega), if_neg (by omega)]
theorem five (a b : Int) : hi a < hi b ∨ (hi a = hi b ∧ lo a < lo b) ∨ (hi a = hi b ∧ lo a = lo b) ∨ (hi a = hi b ∧ lo b < lo a) ∨ hi b < hi a := by omega
theorem lt_of {a b : Int} (ha : In a) (hb : In b) (h : hi a < hi b ∨ (hi a = hi b ∧ lo a < lo b)) : a < b := by unfold In at ha hb; unfold hi lo at h; omega
theorem eq_of {a b : Int} (ha : In a) (hb : In b) (h1 : hi a = hi b) (h2 : lo a = lo b) : a = b := by unfold In at ha hb; unfold hi at h1; unfold lo at h2; omega
/-- The absolute value. -/
def ab (a : Int) : Int := if a < 0 then -a else a
theorem ab_neg {a : Int} (h : a < 0) : ab a = -a := by unfold ab; rw [if_pos h]
theorem ab_pos {a : Int} (h : 0 ≤ a) : ab a = a := by unfold ab; rw [if_neg (by omega)]
theorem hi_neg {a : Int} (ha : In a) : hi a < 0 ↔ a < 0 := by unfold In at ha; unfold hi; omega
theorem ab_hi {a : Int} (ha : In a) : IntKind.u64.wrap (hi (ab a)) = ab a / 18446744073709551616 := by
  unfold In at ha; rw [IntKind.wrap_u64]; unfold hi ab; split <;> omega
/-- What half-to-even rounding adds to a quotient q with the rest r by d. -/
def ru (q r d : Int) : Int := if d - r < r ∨ (r = d - r ∧ q % 2 = 1) then 1 else 0
/-- The absolute value of the rounded quotient. -/
def quo (a d : Int) : Int := ab a / ab d + ru (ab a / ab d) (ab a % ab d) (ab d)
/-- Whether exact.Divide has a result. -/
def dvOk (a d : Int) : Bool := decide (d ≠ 0 ∧ quo a d ≤ 1152921504606846976)
/-- The rounded quotient with its sign. -/
def sq (a d : Int) : Int := if (a < 0 ∧ 0 ≤ d) ∨ (0 ≤ a ∧ d < 0) then -quo a d else quo a d
/-- What exact.Divide answers. -/
def dv (a d : Int) : Int := if dvOk a d then sq a d else 0
theorem ru_range (q r d : Int) : 0 ≤ ru q r d ∧ ru q r d ≤ 1 := by unfold ru; split <;> decide
theorem ab_nonneg (a : Int) : 0 ≤ ab a := by unfold ab; split <;> omega
theorem dv_no {a d : Int} (h : dvOk a d = false) : dv a d = 0 := by unfold dv; rw [h]; rfl
theorem dv_yes {a d : Int} (h : dvOk a d = true) : dv a d = sq a d := by unfold dv; rw [h]; rfl

/-- All that the four ways through exact.Divide ask. -/
structure Dv (a d A D ah al q r x : Int) : Prop where
  A0 : ab a = A
  D0 : ab d = D
  eah : A / 18446744073709551616 = ah
  eal : A % 18446744073709551616 = al
  eq : q = A / D
  er : r = A % D
  ex : x = ru q r D
theorem dvOk_of {a d A D ah al q r x : Int} (h : Dv a d A D ah al q r x) : dvOk a d = decide (D ≠ 0 ∧ q + x ≤ 1152921504606846976) := by
  obtain ⟨rfl, rfl, rfl, rfl, rfl, rfl, rfl⟩ := h
  unfold dvOk quo
  have : (d ≠ 0) ↔ (ab d ≠ 0) := by unfold ab; split <;> omega
  simp only [this]
theorem Dv.none1 {a d A D ah al q r x : Int} (h : Dv a d A D ah al q r x) (g : D ≤ ah) : dvOk a d = false := by
  rw [dvOk_of h]
  have hx := ru_range q r D
  rw [← h.ex] at hx
  have hA := ab_nonneg a
  have hD := ab_nonneg d
  rw [h.A0] at hA
  rw [h.D0] at hD
  simp only [decide_eq_false_iff_not]
  rintro ⟨h1, h2⟩
  have e : 18446744073709551616 ≤ q := by
    rw [h.eq, Int.le_ediv_iff_mul_le (by omega)]; have := h.eah; omega
  omega
theorem Dv.none2 {a d A D ah al q r x : Int} (h : Dv a d A D ah al q r x) (g : 1152921504606846976 < q + x) : dvOk a d = false := by
  rw [dvOk_of h]
  simp only [decide_eq_false_iff_not]
  omega
theorem Dv.none3 {a d A D ah al q r x : Int} (h : Dv a d A D ah al q r x) (g : 1152921504606846976 < q) : dvOk a d = false := by
  have hx := ru_range q r D
  rw [← h.ex] at hx
  exact h.none2 (by omega)
theorem Dv.some {a d A D ah al q r x : Int} (h : Dv a d A D ah al q r x) (g : ah < D) (g' : q + x ≤ 1152921504606846976) : dvOk a d = true := by
  rw [dvOk_of h]
  have hA := ab_nonneg a
  rw [h.A0] at hA
  have := h.eah
  simp only [decide_eq_true_eq]
  omega
theorem Dv.sq {a d A D ah al q r x : Int} (h : Dv a d A D ah al q r x) : sq a d = if (a < 0 ∧ 0 ≤ d) ∨ (0 ≤ a ∧ d < 0) then -(q + x) else q + x := by
  obtain ⟨rfl, rfl, rfl, rfl, rfl, rfl, rfl⟩ := h
  rfl
end Go.Proofs.YtbahfelnbofjjaaGreatDoor.dec

namespace Go.Proofs.YtbahfelnbofjjaaGreatDoor.dec
open Go.RowKit Go.Shelf

def subEntry : Array Value → Sem Value := fun args => do
  let (x, y, b) ← Extern.MathBitsCarry.three "Sub64" args
  pure (Extern.MathBitsCarry.pair ((x + Extern.MathBitsCarry.m64 - y - b) % Extern.MathBitsCarry.m64) (if x < y + b then 1 else 0))

theorem sub64 (x y : Int) (hx : 0 ≤ x) (hy : 0 ≤ y) (hy' : y ≤ 18446744073709551615) (w : World) : (callFunc 323 #[.int .u64 x, .int .u64 y, .int .u64 0]).run Tryz.prog w =
    .ok (.value (.tuple #[.int .u64 ((x - y) % 18446744073709551616), .int .u64 (bor x y)])) w := by
  obtain ⟨x, rfl⟩ := Int.eq_ofNat_of_zero_le hx
  obtain ⟨y, rfl⟩ := Int.eq_ofNat_of_zero_le hy
  have e1 : (((x + 18446744073709551616 - y - 0) % 18446744073709551616 : Nat) : Int) = ((x : Int) - y) % 18446744073709551616 := by omega
  have e2 : ((if x < y + 0 then 1 else 0 : Nat) : Int) = bor x y := by unfold bor; split <;> split <;> omega
  rw [← e1, ← e2]
  rw [run_callFunc_extern Tryz.func323 (by kernel_rfl) (by kernel_rfl) (by kernel_rfl) (e := subEntry) (by kernel_rfl)]
  rfl

/-- exact.Sub. -/
theorem sub_any {x y : Value} {a b : Int} (hx : x = W a) (hy : y = W b) (w : World) :
    Calls Tryz.prog 314 #[x, y] w fun e w' => e = .returned (W (a - b)) ∧ ∃ c1 c2 c3 : Array Value, w' = ((w.alloc (.cells c1 221)).alloc (.cells c2 221)).alloc (.cells c3 221) := by
  subst hx hy
  have ra := lo_range a; have rb := lo_range b; have ha := hi_range a; have hb := hi_range b
  obtain ⟨k0, k1⟩ := bor_range (lo a) (lo b)
  obtain ⟨ra1, ra2⟩ := ra; obtain ⟨rb1, rb2⟩ := rb; obtain ⟨ha1, ha2⟩ := ha; obtain ⟨hb1, hb2⟩ := hb
  unfold W
  go_enter Tryz.func314, Tryz.ntmps314
  go_wp2_with (simp only [sub64 (lo a) (lo b) ra1 rb1 rb2])
  simp [bodyPost, results, Tryz.results314, go_sem]
  exact ⟨⟨sub_hi a b, sub_lo a b⟩, _, _, _, rfl⟩

/-- exact.Neg. -/
theorem neg_any {x : Value} {a : Int} (hx : x = W a) (w : World) :
    Calls Tryz.prog 305 #[x] w fun e w' => e = .returned (W (-a)) ∧ ∃ c1 c2 c3 c4 c5 : Array Value, w' = ((((w.alloc (.cells c1 221)).alloc (.cells c2 221)).alloc (.cells c3 221)).alloc (.cells c4 221)).alloc (.cells c5 221) := by
  subst hx
  unfold W
  go_enter Tryz.func305, Tryz.ntmps305
  go_wp2_with (go_at_call 314; refine (sub_any (a := 0) (b := a) W_zero rfl _).mono ?_; unfold W; rintro e w' ⟨rfl, c1, c2, c3, rfl⟩)
  simp [bodyPost, results, Tryz.results305, go_sem]
  exact ⟨_, _, _, _, _, rfl⟩

/-- exact.signBits. -/
theorem signBits_any (n : Int) (w : World) (_h1 : -9223372036854775808 ≤ n) (_h2 : n ≤ 9223372036854775807) :
    Calls Tryz.prog 286 #[.int .i64 n] w fun e w' => e = .returned (.int .i64 (n / 9223372036854775808)) ∧ w = w' := by
  go_enter Tryz.func286, Tryz.ntmps286
  go_wp2
  go_ret
  exact ⟨rfl, rfl⟩

/-- exact.Of. -/
theorem of_any (n : Int) (w : World) (h1 : -9223372036854775808 ≤ n) (h2 : n ≤ 9223372036854775807) :
    Calls Tryz.prog 242 #[.int .i64 n] w fun e w' => e = .returned (W n) ∧ ∃ c1 : Array Value, w' = w.alloc (.cells c1 221) := by
  go_enter Tryz.func242, Tryz.ntmps242
  go_wp2_with (go_at_call 286; refine (signBits_any _ _ h1 h2).mono ?_; rintro e w' ⟨rfl, rfl⟩)
  unfold W
  rw [of_hi n h1 h2, of_lo]
  simp [bodyPost, results, Tryz.results242, go_sem]
  exact ⟨_, rfl⟩

theorem Tryz.lays264 : Go.Proofs.Lays.n264 Tryz.prog ⟨fun | 264 => 311 | n => n, fun | 53 => 212 | 46 => 170 | n => n, fun | n => n⟩ := {
  mixed := by kernel_rfl
  f264 := Tryz.func311.trans (congrArg some (by kernel_rfl))
  t46 := Tryz.underlying170
  a46 := Tryz.isAgg170
  z46 := Tryz.sizeOf170
  v46 := Tryz.zeroValue170
  t53 := Tryz.underlying212
  a53 := Tryz.isAgg212
  z53 := Tryz.sizeOf212
  v53 := Tryz.zeroValue212 }
theorem mul64 (x y : Int) (w : World) (hx : 0 ≤ x) (hx' : x ≤ 18446744073709551615) (hy : 0 ≤ y) (hy' : y ≤ 18446744073709551615) :
    Calls Tryz.prog 311 #[.int .u64 x, .int .u64 y] w fun e w' => e = .returned (.tuple #[.int .u64 (x * y / 18446744073709551616), .int .u64 (x * y % 18446744073709551616)]) ∧ w = w' := by
  obtain ⟨x, rfl⟩ := Int.eq_ofNat_of_zero_le hx
  obtain ⟨y, rfl⟩ := Int.eq_ofNat_of_zero_le hy
  refine (Any.bits_Mul64 Tryz.lays264 x y (by omega) (by omega) w).mono ?_
  rintro e w' ⟨rfl, rfl⟩
  refine ⟨?_, rfl⟩
  rw [← Int.natCast_mul]
  rfl

/-- exact.product. -/
theorem product_any (x y : Int) (w : World) (hx : 0 ≤ x) (hx' : x ≤ 18446744073709551615) (hy : 0 ≤ y) (hy' : y ≤ 18446744073709551615) :
    Calls Tryz.prog 297 #[.int .u64 x, .int .u64 y] w fun e w' => e = .returned (.agg #[.int .u64 (x * y % 18446744073709551616), .int .u64 (x * y / 18446744073709551616)]) ∧ ∃ c1 : Array Value, w' = w.alloc (.cells c1 274) := by
  go_enter Tryz.func297, Tryz.ntmps297
  go_wp2_with (go_at_call 311; refine (mul64 _ _ _ hx hx' hy hy').mono ?_; rintro e w' ⟨rfl, rfl⟩)
  simp [bodyPost, results, Tryz.results297, go_sem]
  exact ⟨_, rfl⟩
end Go.Proofs.YtbahfelnbofjjaaGreatDoor.dec

namespace Go.Proofs.YtbahfelnbofjjaaGreatDoor.dec
open Go.RowKit Go.Shelf

/-- The region's law with the world after the draw spelled as the walk spells it. -/
theorem still_tail {P : Program} {id : Nat} {Q : Exit → Act → World → Prop} {a : Act} {w : World} {l : List Oper} (n : Nat) (hm : P.follows .mixedOrders = true) (hB : Region.lexTailB .any l.toArray n = true)
    (h : wpStill P l.toArray w.drew (fun a' => wpList P l.toArray Q (l.drop n) a' w.drew) (l.take n) a) : (Code.region id l.toArray true).wp P Q a w :=
  wp_region_still_tail n hm hB h

set_option maxRecDepth 100000 in
set_option maxHeartbeats 1000000 in
/-- exact.Scale. -/
theorem scale_any {x : Value} {a : Int} (n : Int) (hx : x = W a) (w : World) (h1 : -9223372036854775808 ≤ n) (h2 : n ≤ 9223372036854775807) :
    Calls Tryz.prog 258 #[x, .int .i64 n] w fun e w' => e = .returned (W (a * n)) ∧ Below w.heap.size w w' := by
  subst hx
  have eh := scale_hi a n h1 h2
  have el := scale_lo a n
  have HE := Lib.hid eh; have HL := Lib.hid el; clear eh el
  have ra := lo_range a; have ha := hi_range a
  obtain ⟨ra1, ra2⟩ := ra; obtain ⟨ha1, ha2⟩ := ha
  have hn : IntKind.u64.wrap n = lo n := of_lo n
  have rn := lo_range n
  obtain ⟨rn1, rn2⟩ := rn
  unfold W
  go_enter Tryz.func258, Tryz.ntmps258
  go_wp2_with (go_at_call 297; refine (product_any _ _ _ ra1 ra2 rn1 rn2).mono ?_; rintro e w' ⟨rfl, c1, rfl⟩)
  refine still_tail 17 (by kernel_rfl) (by kernel_rfl) ?_
  simp only [List.take_succ_cons, List.take_zero, List.drop_succ_cons, List.drop_zero]
  iterate 11 still_step
  still_call (signBits_any _ _ h1 h2).mono (by rintro e w' ⟨rfl, rfl⟩; exact ⟨rfl, rfl⟩)
  repeat still_step
  refine wpStill_nil ?_
  go_wp2
  rw [HE.out, HL.out]
  simp [bodyPost, results, Tryz.results258, go_sem]
  exact ((((Below.refl _ _).alloc (Nat.le_refl _) _).alloc (by simp) _).alloc (by simp; omega) _).alloc (by simp; omega) _ |>.drew

theorem bfacts {W w1 : World} (hb : Below W.heap.size W w1) : (∀ b o, b < W.heap.size → w1.cell? ⟨b, o, none⟩ = W.cell? ⟨b, o, none⟩) ∧ (∀ b o, b < W.heap.size → w1.frozen? ⟨b, o, none⟩ = W.frozen? ⟨b, o, none⟩) ∧ W.heap.size ≤ w1.heap.size :=
  ⟨fun _ _ h => hb.cell (p := ⟨_, _, none⟩) h, fun _ _ h => hb.frozen (p := ⟨_, _, none⟩) h, hb.size⟩

theorem store2 {B k : Nat} {W w1 : World} (h : Below B W w1) (hk : B ≤ k) (u v : Value) : Below B W ((w1.setCell ⟨k, 0, none⟩ u).setCell ⟨k, 1, none⟩ v) :=
  Below.setCell (p := ⟨k, 1, none⟩) (Below.setCell (p := ⟨k, 0, none⟩) h hk u) hk v

theorem keeps {W w1 : World} (hb : Below W.heap.size W w1) {k o : Nat} {v : Value} (h : W.cell? ⟨k, o, none⟩ = some v) : w1.cell? ⟨k, o, none⟩ = some v := by
  rw [hb.cell (block_lt_of_cell h)]; exact h
theorem read2 {w1 : World} {k : Nat} {a0 a1 : Value} (h0 : w1.cell? ⟨k, 0, none⟩ = some a0) (h1 : w1.cell? ⟨k, 1, none⟩ = some a1) (u v : Value) :
    ((w1.setCell ⟨k, 0, none⟩ u).setCell ⟨k, 1, none⟩ v).cell? ⟨k, 0, none⟩ = some u ∧ ((w1.setCell ⟨k, 0, none⟩ u).setCell ⟨k, 1, none⟩ v).cell? ⟨k, 1, none⟩ = some v := by
  constructor
  · rw [World.cell?_setCell_other _ _ _ _ (by simp)]; exact World.cell?_setCell_same _ _ _ h0
  · exact World.cell?_setCell_same _ _ _ (u := a1) (by rw [World.cell?_setCell_other _ _ _ _ (by simp)]; exact h1)

/-- exact.Mul. -/
theorem mul_any (a b : Int) (w : World) (h1 : -9223372036854775808 ≤ a) (h2 : a ≤ 9223372036854775807) (h3 : -9223372036854775808 ≤ b) (h4 : b ≤ 9223372036854775807) :
    Calls Tryz.prog 203 #[.int .i64 a, .int .i64 b] w fun e w' => e = .returned (W (a * b)) ∧ Below w.heap.size w w' := by
  go_enter Tryz.func203, Tryz.ntmps203
  go_wp2_with (first | (go_at_call 242; refine (of_any _ _ h1 h2).mono ?_; unfold W; rintro e w' ⟨rfl, c1, rfl⟩) | (go_at_call 258; refine (scale_any (a := a) b rfl _ h3 h4).mono ?_; unfold W; rintro e w1 ⟨rfl, hb⟩; obtain ⟨hc, hf, hs⟩ := bfacts hb))
  obtain ⟨r0, r1⟩ := read2 (w1 := w1) (k := w.heap.size) (keeps hb (by simp [go_sem]; rfl)) (keeps hb (by simp [go_sem]; rfl)) (.int .i64 (hi (a * b))) (.int .u64 (lo (a * b)))
  simp [bodyPost, results, Tryz.results203, go_sem, W, r0, r1]
  exact store2 ((((Below.refl _ _).alloc (Nat.le_refl _) _).alloc (by simp) _).trans (hb.mono (by simp; omega))) (Nat.le_refl _) _ _
end Go.Proofs.YtbahfelnbofjjaaGreatDoor.dec

namespace Go.Proofs.YtbahfelnbofjjaaGreatDoor.dec
open Go.RowKit Go.Shelf

/-- exact.size. -/
theorem size_any {x : Value} {a : Int} (hx : x = W a) (ia : In a) (w : World) :
    Calls Tryz.prog 287 #[x] w fun e w' => e = .returned (.agg #[.int .u64 (ab a % 18446744073709551616), .int .u64 (ab a / 18446744073709551616)]) ∧ Below w.heap.size w w' := by
  subst hx
  have e2 : Hid (IntKind.u64.wrap (hi (ab a)) = ab a / 18446744073709551616) := ab_hi ia
  have e1 : Hid (lo (ab a) = ab a % 18446744073709551616) := rfl
  by_cases h : a < 0
  · have hh : hi a < 0 := (hi_neg ia).2 h
    have e0 : ab a = -a := ab_neg h
    rw [e0] at e1 e2 ⊢
    clear e0
    unfold W
    go_enter Tryz.func287, Tryz.ntmps287
    go_wp2_with (go_at_call 305; refine (neg_any (a := a) rfl _).mono ?_; unfold W; rintro e w' ⟨rfl, c1, c2, c3, c4, c5, rfl⟩)
    rw [e1.out, e2.out]
    simp [bodyPost, results, Tryz.results287, go_sem]
    exact ((((((Below.refl _ _).alloc (Nat.le_refl _) _).alloc (by simp) _).alloc (by simp; omega) _).alloc (by simp; omega) _).alloc (by simp; omega) _).alloc (by simp; omega) _ |>.alloc (by simp; omega) _
  · have hh : 0 ≤ hi a := by have := hi_neg ia; omega
    have e0 : ab a = a := ab_pos (by omega)
    rw [e0] at e1 e2 ⊢
    clear e0
    unfold W
    go_enter Tryz.func287, Tryz.ntmps287
    go_wp2
    rw [e1.out, e2.out]
    simp [bodyPost, results, Tryz.results287, go_sem]
    exact ((Below.refl _ _).alloc (Nat.le_refl _) _).alloc (by simp) _

/-- exact.roundUp. -/
theorem roundUp_any (q r d : Int) (w : World) (hq : 0 ≤ q) (hr : 0 ≤ r) (hd : r < d) (hd' : d ≤ 18446744073709551615) :
    Calls Tryz.prog 289 #[.int .u64 q, .int .u64 r, .int .u64 d] w fun e w' => e = .returned (.int .u64 (ru q r d)) ∧ w = w' := by
  have h4 : (Hid (ru q r d = 1) ∧ d - r < r) ∨ (Hid (ru q r d = 1) ∧ ((r : Int) == d - r) = true ∧ (q % 2 == 1) = true ∧ ¬ d - r < r) ∨ (Hid (ru q r d = 0) ∧ ((r : Int) == d - r) = true ∧ (q % 2 == 1) = false ∧ ¬ d - r < r) ∨ (Hid (ru q r d = 0) ∧ ((r : Int) == d - r) = false ∧ ¬ d - r < r) := by
    unfold Hid ru
    simp only [beq_iff_eq, beq_eq_false_iff_ne]
    split <;> omega
  generalize ru q r d = c at *
  rcases h4 with ⟨H, h⟩ | ⟨H, h, h', h''⟩ | ⟨H, h, h', h''⟩ | ⟨H, h, h'⟩
  all_goals
    go_enter Tryz.func289, Tryz.ntmps289
    go_wp2
    go_ret
    exact ⟨by rw [H.out]; rfl, rfl⟩
end Go.Proofs.YtbahfelnbofjjaaGreatDoor.dec

namespace Go.Proofs.YtbahfelnbofjjaaGreatDoor.dec
open Go.RowKit

/-- The digit: how often y goes into u * 2^32 + v. -/
def dig (u v y : Int) : Int := (u * 4294967296 + v) / y

structure Kn (y y1 y0 u v : Int) : Prop where
  ey : y = y1 * 4294967296 + y0
  y1a : 2147483648 ≤ y1
  y1b : y1 ≤ 4294967295
  y0a : 0 ≤ y0
  y0b : y0 ≤ 4294967295
  u0 : 0 ≤ u
  u1 : u < y
  v0 : 0 ≤ v
  v1 : v ≤ 4294967295

section
variable {y y1 y0 u v q r : Int}
theorem Kn.pos (K : Kn y y1 y0 u v) : 0 < y := by have := K.ey; have := K.y1a; have := K.y0a; omega
theorem Kn.lt (K : Kn y y1 y0 u v) : dig u v y < 4294967296 := by
  unfold dig; rw [Int.ediv_lt_iff_lt_mul K.pos]; have := K.u1; have := K.v1; omega
theorem Kn.nonneg (K : Kn y y1 y0 u v) : 0 ≤ dig u v y := by
  unfold dig; rw [Int.le_ediv_iff_mul_le K.pos]; have := K.u0; have := K.v0; omega
theorem Kn.test (K : Kn y y1 y0 u v) (h : q * y1 + r = u) : q * y0 ≤ 4294967296 * r + v ↔ q ≤ dig u v y := by
  unfold dig
  rw [Int.le_ediv_iff_mul_le K.pos, K.ey, Int.mul_add, ← Int.mul_assoc]
  generalize q * y1 = m at *
  generalize q * y0 = p
  omega
theorem Kn.start (K : Kn y y1 y0 u v) : dig u v y ≤ u / y1 ∧ u / y1 ≤ 4294967297 := by
  have hy := K.ey; have a := K.y1a; have b := K.y1b; have c := K.y0a; have d := K.y0b; have e := K.u1; have f := K.v1
  constructor
  · rw [Int.le_ediv_iff_mul_le (by omega)]
    have h := Int.ediv_mul_le (u * 4294967296 + v) (b := y) (by have := K.pos; omega)
    have h0 := Int.mul_nonneg K.nonneg c
    change dig u v y * y ≤ _ at h
    rw [hy, Int.mul_add, ← Int.mul_assoc, ← hy] at h
    generalize dig u v y * y1 = m at *
    generalize dig u v y * y0 = p at *
    omega
  · have : u / y1 < 4294967298 := by rw [Int.ediv_lt_iff_lt_mul (by omega)]; omega
    omega
theorem Kn.out (K : Kn y y1 y0 u v) (h : q * y1 + r = u) (h1 : q ≤ 4294967296) (h2 : 4294967296 ≤ r) : q ≤ dig u v y := by
  rw [← K.test h]
  have a := K.y0a; have b := K.y0b; have c := K.v0
  have m := Int.mul_le_mul h1 b a (by omega)
  omega
theorem Kn.rest (K : Kn y y1 y0 u v) : 0 ≤ u * 4294967296 + v - dig u v y * y ∧ u * 4294967296 + v - dig u v y * y < y := by
  have e : u * 4294967296 + v - dig u v y * y = (u * 4294967296 + v) % y := by rw [Int.emod_def]; unfold dig; rw [Int.mul_comm y]
  rw [e]
  exact ⟨Int.emod_nonneg _ (by have := K.pos; omega), Int.emod_lt_of_pos _ K.pos⟩
end
/-- The rest: what the digit leaves. -/
def rst (u v y : Int) : Int := u * 4294967296 + v - dig u v y * y

/-- What a loop of the algorithm knows of its guess q and its rest r. -/
def Guess (y1 u Q q r : Int) : Prop := Q ≤ q ∧ q ≤ 4294967297 ∧ q * y1 + r = u

theorem step_eq {y1 u q r : Int} (h : q * y1 + r = u) : (q - 1) * y1 + (r + y1) = u := by rw [Int.sub_mul]; omega
theorem wrap_rst {u v y : Int} (h0 : 0 ≤ rst u v y) (h1 : rst u v y ≤ 18446744073709551615) :
    IntKind.u64.wrap (IntKind.u64.wrap (IntKind.u64.wrap (u * 4294967296) + v) - IntKind.u64.wrap (dig u v y * y)) = rst u v y := by
  unfold rst at *
  simp only [IntKind.wrap_u64]
  generalize dig u v y * y = m at *
  omega

/-- Two digits give the quotient and the rest. -/
theorem two_digits {N y s u l v1 v0 Y : Int} (_hs : 0 < s) (hN : N * s = u * 18446744073709551616 + l) (hY : Y = y * s) (hy : 0 < y) (hl : l = v1 * 4294967296 + v0) (a : 0 ≤ rst (rst u v1 Y) v0 Y) (b : rst (rst u v1 Y) v0 Y < Y) :
    dig u v1 Y * 4294967296 + dig (rst u v1 Y) v0 Y = N / y ∧ rst (rst u v1 Y) v0 Y / s = N % y := by
  have e1 : u * 4294967296 + v1 = dig u v1 Y * Y + rst u v1 Y := by unfold rst; omega
  have e2 : rst u v1 Y * 4294967296 + v0 = dig (rst u v1 Y) v0 Y * Y + rst (rst u v1 Y) v0 Y := by
    have : rst (rst u v1 Y) v0 Y = rst u v1 Y * 4294967296 + v0 - dig (rst u v1 Y) v0 Y * Y := rfl
    omega
  generalize dig u v1 Y = q1 at *
  generalize rst u v1 Y = r1 at *
  generalize dig r1 v0 Y = q0 at *
  generalize rst r1 v0 Y = R at *
  have e3 : N * s = (q1 * 4294967296 + q0) * Y + R := by
    rw [Int.add_mul, Int.mul_assoc, Int.mul_comm 4294967296 Y, ← Int.mul_assoc]
    generalize q1 * Y = m1 at *
    generalize q0 * Y = m0 at *
    omega
  rw [hY, ← Int.mul_assoc] at e3
  have e4 : R = (N - (q1 * 4294967296 + q0) * y) * s := by rw [Int.sub_mul]; omega
  generalize q1 * 4294967296 + q0 = q at *
  have hpos := _hs
  have f1 : R / s = N - q * y := by rw [e4]; exact Int.mul_ediv_cancel _ (by omega)
  have g1 : 0 ≤ N - q * y := by
    rcases Int.lt_or_le (N - q * y) 0 with h | h
    · have := Int.mul_neg_of_neg_of_pos h hpos; omega
    · exact h
  have g2 : N - q * y < y := by
    rw [e4, hY] at b
    exact Int.lt_of_mul_lt_mul_right b (by omega)
  have f2 : N / y = q := by
    have : N = (N - q * y) + q * y := by omega
    rw [this, Int.add_mul_ediv_right _ _ (by omega), Int.ediv_eq_zero_of_lt g1 g2]
    omega
  have f3 : N % y = N - q * y := by rw [Int.emod_def, f2, Int.mul_comm y]
  exact ⟨f2.symm, by rw [f1, f3]⟩

/-! The normalization: y is shifted until its highest bit is set. -/
theorem norm_nat (y : Nat) (h0 : 1 ≤ y) (h1 : y < 18446744073709551616) :
    ∃ s : Nat, s ≤ 63 ∧ 64 - (Lib.bitLen y : Int) = s ∧ 9223372036854775808 ≤ y * 2 ^ s ∧ y * 2 ^ s < 18446744073709551616 := by
  obtain ⟨a, b, c⟩ := Lib.bitLenAux_bounds 64 y (by omega) (by omega)
  have d := Lib.bitLen_le y 64 (by omega) (by omega)
  change 1 ≤ Lib.bitLen y at a
  change 2 ^ (Lib.bitLen y - 1) ≤ y at b
  change y < 2 ^ Lib.bitLen y at c
  generalize Lib.bitLen y = L at *
  refine ⟨64 - L, by omega, by omega, ?_, ?_⟩
  · have e : 2 ^ (L - 1) * 2 ^ (64 - L) = 9223372036854775808 := by
      rw [← Nat.pow_add, show L - 1 + (64 - L) = 63 from by omega]
    rw [← e]
    exact Nat.mul_le_mul_right _ b
  · have e : 2 ^ L * 2 ^ (64 - L) = 18446744073709551616 := by
      rw [← Nat.pow_add, show L + (64 - L) = 64 from by omega]
    rw [← e]
    exact Nat.mul_lt_mul_of_pos_right c (Nat.two_pow_pos _)
theorem shift_nat (hi lo s : Nat) (hs : s ≤ 63) :
    (hi * 18446744073709551616 + lo) * 2 ^ s = (hi * 2 ^ s + lo / 2 ^ (64 - s)) * 18446744073709551616 + lo * 2 ^ s % 18446744073709551616 := by
  have e : 2 ^ (64 - s) * 2 ^ s = 18446744073709551616 := by
    rw [← Nat.pow_add, show 64 - s + s = 64 from by omega]
  have d : lo * 2 ^ s / 18446744073709551616 = lo / 2 ^ (64 - s) := by
    rw [← e]; exact Nat.mul_div_mul_right _ _ (Nat.two_pow_pos _)
  rw [← d, Nat.add_mul, Nat.mul_right_comm]
  generalize hi * 2 ^ s = m
  generalize lo * 2 ^ s = k
  omega
theorem or_nat (hi lo s : Nat) (hs : s ≤ 63) (hlo : lo < 18446744073709551616) : hi * 2 ^ s ||| lo / 2 ^ (64 - s) = hi * 2 ^ s + lo / 2 ^ (64 - s) := by
  have e : 2 ^ (64 - s) * 2 ^ s = 18446744073709551616 := by
    rw [← Nat.pow_add, show 64 - s + s = 64 from by omega]
  have h : lo / 2 ^ (64 - s) < 2 ^ s := Nat.div_lt_of_lt_mul (by rw [e]; exact hlo)
  rw [Nat.mul_comm hi]
  exact (Nat.two_pow_add_eq_or_of_lt h hi).symm
theorem and_low (a : Int) (h0 : 0 ≤ a) (h1 : a ≤ 18446744073709551615) : bits .and .u64 a 4294967295 = a % 4294967296 := by
  obtain ⟨n, rfl⟩ := Int.eq_ofNat_of_zero_le h0
  have h := bits_and_u64_nat n 4294967295 (by omega) (by omega)
  have e : n &&& 4294967295 = n % 4294967296 := Nat.and_two_pow_sub_one_eq_mod n 32
  rw [e] at h
  exact h

/-- All that the division asks of the shift s, in the spelling of the program's steps. -/
structure Norm (hi lo y s Y u l : Int) : Prop where
  s0 : 0 ≤ s
  s1 : s ≤ 63
  len : 64 - (Lib.bitLen y.toNat : Int) = s
  wY : IntKind.u64.wrap (y * 2 ^ s.toNat) = Y
  Y0 : 9223372036854775808 ≤ Y
  Y1 : Y ≤ 18446744073709551615
  wu : bits BinOp.or IntKind.u64 (IntKind.u64.wrap (hi * 2 ^ s.toNat)) (lo / 2 ^ (64 - s).toNat) = u
  u0 : 0 ≤ u
  u1 : u < Y
  wl : IntKind.u64.wrap (lo * 2 ^ s.toNat) = l
  l0 : 0 ≤ l
  l1 : l ≤ 18446744073709551615
  pos : (0 : Int) < 2 ^ s.toNat
  eY : Y = y * 2 ^ s.toNat
  eN : (hi * 18446744073709551616 + lo) * 2 ^ s.toNat = u * 18446744073709551616 + l

theorem norm_any (hi lo y : Int) (h1 : 0 ≤ hi) (h2 : hi < y) (h3 : y ≤ 18446744073709551615) (h4 : 0 ≤ lo) (h5 : lo ≤ 18446744073709551615) :
    ∃ s Y u l, Norm hi lo y s Y u l := by
  obtain ⟨hi, rfl⟩ := Int.eq_ofNat_of_zero_le h1
  obtain ⟨lo, rfl⟩ := Int.eq_ofNat_of_zero_le h4
  obtain ⟨y, rfl⟩ := Int.eq_ofNat_of_zero_le (show 0 ≤ y from by omega)
  obtain ⟨s, hs, hl, ha, hb⟩ := norm_nat y (by omega) (by omega)
  have hsh := shift_nat hi lo s hs
  have hor := or_nat hi lo s hs (by omega)
  have hlt : hi * 2 ^ s + 2 ^ s ≤ y * 2 ^ s := by
    have := Nat.mul_le_mul_right (2 ^ s) (show hi + 1 ≤ y from by omega)
    rw [Nat.add_mul] at this; omega
  have hd : lo / 2 ^ (64 - s) < 2 ^ s := Nat.div_lt_of_lt_mul (by
    rw [← Nat.pow_add, show 64 - s + s = 64 from by omega]; omega)
  have hp : 0 < 2 ^ s := Nat.two_pow_pos _
  have c2 : ((2 ^ s : Nat) : Int) = (2 : Int) ^ s := by simp
  have c3 : ((2 ^ (64 - s) : Nat) : Int) = (2 : Int) ^ (64 - s) := by simp
  have t1 : ((s : Int)).toNat = s := rfl
  have t2 : (64 - (s : Int)).toNat = 64 - s := by omega
  refine ⟨s, ((y * 2 ^ s : Nat) : Int), ((hi * 2 ^ s + lo / 2 ^ (64 - s) : Nat) : Int), ((lo * 2 ^ s % 18446744073709551616 : Nat) : Int), ?_⟩
  have wY : IntKind.u64.wrap ((y : Int) * 2 ^ s) = ((y * 2 ^ s : Nat) : Int) := by
    rw [← c2, ← Int.natCast_mul, IntKind.wrap_u64]; omega
  have wH : IntKind.u64.wrap ((hi : Int) * 2 ^ s) = ((hi * 2 ^ s : Nat) : Int) := by
    rw [← c2, ← Int.natCast_mul, IntKind.wrap_u64]; omega
  have wL : IntKind.u64.wrap ((lo : Int) * 2 ^ s) = ((lo * 2 ^ s % 18446744073709551616 : Nat) : Int) := by
    rw [← c2, ← Int.natCast_mul, IntKind.wrap_u64]; omega
  have wU : bits BinOp.or IntKind.u64 (IntKind.u64.wrap ((hi : Int) * 2 ^ s)) ((lo : Int) / 2 ^ (64 - s)) = ((hi * 2 ^ s + lo / 2 ^ (64 - s) : Nat) : Int) := by
    rw [wH, ← c3, ← Int.natCast_ediv, bits_or_u64_nat _ _ (by omega) (by omega), hor]
  have eN : ((hi : Int) * 18446744073709551616 + lo) * 2 ^ s = ((hi * 2 ^ s + lo / 2 ^ (64 - s) : Nat) : Int) * 18446744073709551616 + ((lo * 2 ^ s % 18446744073709551616 : Nat) : Int) := by
    rw [← c2]
    generalize hi * 2 ^ s + lo / 2 ^ (64 - s) = A at hsh ⊢
    generalize lo * 2 ^ s % 18446744073709551616 = B at hsh ⊢
    generalize 2 ^ s = p at hsh ⊢
    have h := congrArg (fun x : Nat => (x : Int)) hsh
    simp only [Int.natCast_add, Int.natCast_mul] at h
    exact h
  constructor
  case s0 => omega
  case s1 => omega
  case len => rw [Int.toNat_natCast]; exact hl
  case wY => rw [t1]; exact wY
  case Y0 => omega
  case Y1 => omega
  case wu => rw [t1, t2]; exact wU
  case u0 => omega
  case u1 => omega
  case wl => rw [t1]; exact wL
  case l0 => omega
  case l1 => omega
  case pos => rw [t1, ← c2]; omega
  case eY => rw [t1, ← c2, Int.natCast_mul]
  case eN => rw [t1]; exact eN
end Go.Proofs.YtbahfelnbofjjaaGreatDoor.dec

namespace Go.Proofs.YtbahfelnbofjjaaGreatDoor.dec
open Go.RowKit

theorem ab_eq (x : Int) : ab x = (x.natAbs : Int) := by unfold ab; split <;> omega
theorem ab_mul (x y : Int) : ab (x * y) = ab x * ab y := by rw [ab_eq, ab_eq, ab_eq, Int.natAbs_mul, Int.natCast_mul]

theorem quo_parts {a d : Int} (hd : d ≠ 0) : ∃ Q R, 0 ≤ Q ∧ 0 ≤ R ∧ R < ab d ∧ ab a = Q * ab d + R ∧ quo a d = Q + ru Q R (ab d) := by
  have hD : 0 < ab d := by unfold ab; split <;> omega
  refine ⟨ab a / ab d, ab a % ab d, Int.ediv_nonneg (ab_nonneg a) (by omega), Int.emod_nonneg _ (by omega), Int.emod_lt_of_pos _ hD, ?_, rfl⟩
  rw [Int.mul_comm]
  exact (Int.mul_ediv_add_emod _ _).symm
theorem ru_one {q r d : Int} (h : ru q r d = 1) : d - r < r ∨ (r = d - r ∧ q % 2 = 1) := by
  unfold ru at h
  split at h
  · assumption
  · omega
theorem ru_zero {q r d : Int} (h : ru q r d = 0) : ¬ (d - r < r ∨ (r = d - r ∧ q % 2 = 1)) := by
  unfold ru at h
  split at h
  · omega
  · assumption
theorem ru_two (q r d : Int) : ru q r d = 0 ∨ ru q r d = 1 := by unfold ru; split <;> omega
theorem ok_iff (a d : Int) : dvOk a d = true ↔ d ≠ 0 ∧ quo a d ≤ 1152921504606846976 := by unfold dvOk; rw [decide_eq_true_eq]

/-- What is left of a number behind the division. -/
theorem rounds {a d : Int} (h : dvOk a d = true) : d ≠ 0 ∧ -1152921504606846976 ≤ dv a d ∧ dv a d ≤ 1152921504606846976 ∧
    (ab (a - dv a d * d) + ab (a - dv a d * d) < ab d ∨ (ab (a - dv a d * d) + ab (a - dv a d * d) = ab d ∧ (dv a d).tmod 2 = 0)) := by
  rw [dv_yes h]
  rw [ok_iff] at h
  obtain ⟨hd, hq⟩ := h
  obtain ⟨Q, R, q0, r0, r1, e, f⟩ := quo_parts (a := a) hd
  unfold sq
  rw [f] at hq ⊢
  have hx := ru_two Q R (ab d)
  have h1 := @ru_one Q R (ab d)
  have h0 := @ru_zero Q R (ab d)
  generalize ru Q R (ab d) = x at *
  have eP : (Q + x) * ab d = Q * ab d + x * ab d := Int.add_mul _ _ _
  have eX : x * ab d = 0 ∧ x = 0 ∨ x * ab d = ab d ∧ x = 1 := by
    rcases hx with rfl | rfl
    · left; simp
    · right; simp
  have hz : Q + x = 0 → (Q + x) * ab d = 0 := fun h => by rw [h, Int.zero_mul]
  generalize hP : (Q + x) * ab d = P at *
  generalize x * ab d = X at *
  have hm : ∀ y : Int, y.tmod 2 = 0 ↔ y % 2 = 0 := fun y => by
    constructor
    · intro hy; exact Int.emod_eq_zero_of_dvd (Int.dvd_of_tmod_eq_zero hy)
    · intro hy; exact Int.tmod_eq_zero_of_dvd (Int.dvd_of_emod_eq_zero hy)
  have hmul : ∀ y, y = Q + x ∨ y = -(Q + x) → (y * d = P ∧ (y = Q + x ∧ 0 ≤ d ∨ y = -(Q + x) ∧ d < 0)) ∨ (y * d = -P ∧ (y = Q + x ∧ d < 0 ∨ y = -(Q + x) ∧ 0 ≤ d)) := by
    intro y hy
    have hab : ab d = d ∧ 0 ≤ d ∨ ab d = -d ∧ d < 0 := by unfold ab; split <;> omega
    rcases hab with ⟨g, gd⟩ | ⟨g, gd⟩ <;> rw [g] at hP <;> rcases hy with rfl | rfl
    · left; exact ⟨hP, .inl ⟨rfl, gd⟩⟩
    · right; exact ⟨by rw [Int.neg_mul, hP], .inr ⟨rfl, gd⟩⟩
    · right; exact ⟨by rw [Int.mul_neg] at hP; omega, .inl ⟨rfl, gd⟩⟩
    · left; exact ⟨by rw [Int.neg_mul, ← Int.mul_neg]; exact hP, .inr ⟨rfl, gd⟩⟩
  have key := hmul (if (a < 0 ∧ 0 ≤ d) ∨ (0 ≤ a ∧ d < 0) then -(Q + x) else Q + x) (by split <;> simp)
  rw [hm]
  generalize hy : (if (a < 0 ∧ 0 ≤ d) ∨ (0 ≤ a ∧ d < 0) then -(Q + x) else Q + x) = y at *
  have hy' : ((a < 0 ∧ 0 ≤ d) ∨ (0 ≤ a ∧ d < 0)) ∧ y = -(Q + x) ∨ ¬ ((a < 0 ∧ 0 ≤ d) ∨ (0 ≤ a ∧ d < 0)) ∧ y = Q + x := by
    split at hy <;> omega
  clear hy hmul hm
  generalize y * d = Y at *
  have hab : ab d = d ∧ 0 ≤ d ∨ ab d = -d ∧ d < 0 := by unfold ab; split <;> omega
  have haa : ab a = a ∧ 0 ≤ a ∨ ab a = -a ∧ a < 0 := by unfold ab; split <;> omega
  have har : ab (a - Y) = a - Y ∧ 0 ≤ a - Y ∨ ab (a - Y) = -(a - Y) ∧ a - Y < 0 := by unfold ab; split <;> omega
  generalize ab d = D at *
  generalize ab a = A at *
  generalize ab (a - Y) = T at *
  generalize Q * D = m at *
  refine ⟨hd, by omega, by omega, ?_⟩
  rcases eX with ⟨hX, rfl⟩ | ⟨hX, rfl⟩
  · have g := h0 rfl
    clear h0 h1
    omega
  · have g := h1 rfl
    clear h0 h1
    omega
theorem no_result {a d : Int} (h : dvOk a d = false) : dv a d = 0 := dv_no h

end Go.Proofs.YtbahfelnbofjjaaGreatDoor.dec

namespace Go.Proofs.YtbahfelnbofjjaaGreatDoor.dec
open Go.RowKit

theorem lim2 {A D Q R x m : Int} (e : A = m + R) (g : Q = 1152921504606846976) (h : m = 1152921504606846976 * D) (k : x = 0 ∧ ¬ (D - R < R ∨ (R = D - R ∧ Q % 2 = 1)) ∨ x = 1 ∧ (D - R < R ∨ (R = D - R ∧ Q % 2 = 1))) : Q + x ≤ 1152921504606846976 ↔ A + A ≤ D * 2305843009213693953 := by
  have p : ¬ Q % 2 = 1 := by rw [g]; decide
  have h2 : D * 2305843009213693953 = m + m + D := by rw [h, Int.mul_comm]; omega
  rw [h2, g]
  clear h h2 g
  constructor
  · intro _; omega
  · intro _; omega
/-- When there is a result. -/
theorem limit {a d : Int} (hd : d ≠ 0) : dvOk a d = true ↔ ab a + ab a ≤ ab d * 2305843009213693953 := by
  rw [ok_iff]
  obtain ⟨Q, R, q0, r0, r1, e, f⟩ := quo_parts (a := a) hd
  rw [f]
  have hx := ru_two Q R (ab d)
  have h1 := @ru_one Q R (ab d)
  have h0 := @ru_zero Q R (ab d)
  generalize ru Q R (ab d) = x at *
  rcases Int.lt_trichotomy Q 1152921504606846976 with g | g | g
  · clear h0 h1
    have := Int.mul_le_mul_of_nonneg_right (show Q + 1 ≤ 1152921504606846976 from by omega) (show 0 ≤ ab d from by omega)
    rw [Int.add_mul, Int.one_mul] at this
    generalize Q * ab d = m at *
    exact ⟨fun _ => by omega, fun _ => ⟨hd, by omega⟩⟩
  · have this : Q * ab d = 1152921504606846976 * ab d := by rw [g]
    generalize Q * ab d = m at *
    have k := lim2 (x := x) e g this (by
      rcases hx with hx | hx
      · exact .inl ⟨hx, h0 hx⟩
      · exact .inr ⟨hx, h1 hx⟩)
    exact ⟨fun h => k.1 h.2, fun h => ⟨hd, k.2 h⟩⟩
  · clear h0 h1
    have := Int.mul_le_mul_of_nonneg_right (show 1152921504606846977 ≤ Q from by omega) (show 0 ≤ ab d from by omega)
    generalize Q * ab d = m at *
    exact ⟨fun h => by omega, fun h => by omega⟩

/-- A product divided by one of its factors. -/
theorem dv_mul {q d : Int} (hd : d ≠ 0) : quo (q * d) d = ab q := by
  have hD : 0 < ab d := by unfold ab; split <;> omega
  unfold quo
  rw [ab_mul, Int.mul_ediv_cancel _ (by omega), Int.mul_emod_left]
  have : ru (ab q) 0 (ab d) = 0 := by unfold ru; rw [if_neg (by omega)]
  rw [this, Int.add_zero]
theorem mul_in {q d : Int} (q1 : -9223372036854775808 ≤ q) (q2 : q ≤ 9223372036854775807) (d1 : -9223372036854775808 ≤ d) (d2 : d ≤ 9223372036854775807) : In (q * d) := by
  have a1 : ab q ≤ 9223372036854775808 := by unfold ab; split <;> omega
  have a2 : ab d ≤ 9223372036854775808 := by unfold ab; split <;> omega
  have h := Int.mul_le_mul a1 a2 (ab_nonneg d) (by omega)
  rw [← ab_mul] at h
  unfold In
  unfold ab at h
  split at h <;> omega
theorem divides {q d : Int} (hd : d ≠ 0) (q1 : -1152921504606846976 ≤ q) (q2 : q ≤ 1152921504606846976) : dvOk (q * d) d = true ∧ dv (q * d) d = q := by
  have h : dvOk (q * d) d = true := by
    rw [ok_iff, dv_mul hd]
    exact ⟨hd, by unfold ab; split <;> omega⟩
  refine ⟨h, ?_⟩
  rw [dv_yes h]
  unfold sq
  rw [dv_mul hd]
  rcases Int.lt_trichotomy d 0 with g | g | g
  · rcases Int.lt_trichotomy q 0 with k | k | k
    · have := Int.mul_pos_of_neg_of_neg k g
      rw [if_pos (by omega), ab_neg k]; omega
    · subst k; rw [Int.zero_mul]; simp [ab]
    · have := Int.mul_neg_of_pos_of_neg k g
      rw [if_neg (by omega), ab_pos (by omega)]
  · omega
  · rcases Int.lt_trichotomy q 0 with k | k | k
    · have := Int.mul_neg_of_neg_of_pos k g
      rw [if_pos (by omega), ab_neg k]; omega
    · subst k; rw [Int.zero_mul]; simp [ab]
    · have := Int.mul_pos k g
      rw [if_neg (by omega), ab_pos (by omega)]
theorem divides_not {q d : Int} (h : d = 0 ∨ 1152921504606846976 < q ∨ q < -1152921504606846976) : dvOk (q * d) d = false := by
  by_cases hd : d = 0
  · unfold dvOk; simp [hd]
  · have : ¬ dvOk (q * d) d = true := by
      rw [ok_iff, dv_mul hd]
      unfold ab
      split <;> omega
    simpa using this
end Go.Proofs.YtbahfelnbofjjaaGreatDoor.dec

namespace Go.Proofs.YtbahfelnbofjjaaGreatDoor.dec
open Go.RowKit

/-- Is x in range? -/
def rg (x : Int) : Bool := decide (-1152921504606846976 ≤ x ∧ x ≤ 1152921504606846976)
/-- A result that is kept if it is in range. -/
def kx (x : Int) : Int := if rg x then x else 0
theorem rg_iff (x : Int) : rg x = true ↔ -1152921504606846976 ≤ x ∧ x ≤ 1152921504606846976 := by unfold rg; rw [decide_eq_true_eq]
theorem rg_no (x : Int) : rg x = false ↔ x < -1152921504606846976 ∨ 1152921504606846976 < x := by unfold rg; rw [decide_eq_false_iff_not]; omega
theorem kx_yes {x : Int} (h : rg x = true) : kx x = x := by unfold kx; rw [h]; rfl
theorem kx_no {x : Int} (h : rg x = false) : kx x = 0 := by unfold kx; rw [h]; rfl

theorem dvOk_one (a : Int) : dvOk a 1 = rg a := by
  cases h : rg a
  · rw [rg_no] at h
    have := divides_not (q := a) (d := 1) (by omega)
    rwa [Int.mul_one] at this
  · rw [rg_iff] at h
    have := (divides (q := a) (d := 1) (by decide) h.1 h.2).1
    rwa [Int.mul_one] at this
theorem dv_one (a : Int) : dv a 1 = kx a := by
  cases h : rg a
  · rw [kx_no h, no_result ((dvOk_one a).trans h)]
  · rw [kx_yes h]
    rw [rg_iff] at h
    have := (divides (q := a) (d := 1) (by decide) h.1 h.2).2
    rwa [Int.mul_one] at this
theorem ok_micro {x : Int} (h1 : -9223372036854775808 ≤ x) (h2 : x ≤ 9223372036854775807) : dvOk x 1000000 = true := by
  rw [limit (by decide)]
  have : ab (1000000 : Int) = 1000000 := rfl
  rw [this]
  unfold ab
  split <;> omega

/-- The answers of Add, Sub, Mul and Div, and whether there are any. -/
def adK (a b : Int) : Bool := rg a && (rg b && rg (a + b))
def adX (a b : Int) : Int := if adK a b then a + b else 0
def suK (a b : Int) : Bool := rg a && (rg b && rg (a - b))
def suX (a b : Int) : Int := if suK a b then a - b else 0
def muK (a b : Int) : Bool := rg a && (rg b && dvOk (a * b) 1000000)
def muX (a b : Int) : Int := if muK a b then dv (a * b) 1000000 else 0
def diK (a b : Int) : Bool := rg a && (rg b && dvOk (a * 1000000) b)
def diX (a b : Int) : Int := if diK a b then dv (a * 1000000) b else 0
/-- ToInt. -/
def ti (x : Int) : Int := dv x 1000000

theorem adK_in {a b : Int} (ha : rg a = true) (hb : rg b = true) : adK a b = rg (a + b) := by unfold adK; rw [ha, hb]; rfl
theorem suK_in {a b : Int} (ha : rg a = true) (hb : rg b = true) : suK a b = rg (a - b) := by unfold suK; rw [ha, hb]; rfl
theorem muK_in {a b : Int} (ha : rg a = true) (hb : rg b = true) : muK a b = dvOk (a * b) 1000000 := by unfold muK; rw [ha, hb]; rfl
theorem diK_in {a b : Int} (ha : rg a = true) (hb : rg b = true) : diK a b = dvOk (a * 1000000) b := by unfold diK; rw [ha, hb]; rfl
theorem adX_in {a b : Int} (ha : rg a = true) (hb : rg b = true) : adX a b = kx (a + b) := by unfold adX kx; rw [adK_in ha hb]
theorem suX_in {a b : Int} (ha : rg a = true) (hb : rg b = true) : suX a b = kx (a - b) := by unfold suX kx; rw [suK_in ha hb]
theorem muX_in {a b : Int} (ha : rg a = true) (hb : rg b = true) : muX a b = dv (a * b) 1000000 := by
  unfold muX; rw [muK_in ha hb]; split
  · rfl
  · rename_i h; exact (no_result (by simpa using h)).symm
theorem diX_in {a b : Int} (ha : rg a = true) (hb : rg b = true) : diX a b = dv (a * 1000000) b := by
  unfold diX; rw [diK_in ha hb]; split
  · rfl
  · rename_i h; exact (no_result (by simpa using h)).symm
theorem out_all {a b : Int} (h : rg a = false ∨ rg b = false) : adK a b = false ∧ suK a b = false ∧ muK a b = false ∧ diK a b = false ∧ adX a b = 0 ∧ suX a b = 0 ∧ muX a b = 0 ∧ diX a b = 0 := by
  have e1 : adK a b = false := by unfold adK; rcases h with h | h <;> rw [h] <;> simp
  have e2 : suK a b = false := by unfold suK; rcases h with h | h <;> rw [h] <;> simp
  have e3 : muK a b = false := by unfold muK; rcases h with h | h <;> rw [h] <;> simp
  have e4 : diK a b = false := by unfold diK; rcases h with h | h <;> rw [h] <;> simp
  refine ⟨e1, e2, e3, e4, ?_, ?_, ?_, ?_⟩
  · unfold adX; rw [e1]; rfl
  · unfold suX; rw [e2]; rfl
  · unfold muX; rw [e3]; rfl
  · unfold diX; rw [e4]; rfl

/-! What is left behind a division, for both signs; monotony; signs. -/
theorem near {a d : Int} (h : dvOk a d = true) : d ≠ 0 ∧ -1152921504606846976 ≤ dv a d ∧ dv a d ≤ 1152921504606846976 ∧
    2 * (dv a d * d - a) ≤ ab d ∧ -ab d ≤ 2 * (dv a d * d - a) ∧ (2 * (dv a d * d - a) = ab d ∨ 2 * (dv a d * d - a) = -ab d → (dv a d).tmod 2 = 0) := by
  obtain ⟨h0, h1, h2, h3⟩ := rounds h
  generalize dv a d * d = p at *
  have hx : ab (a - p) = a - p ∧ 0 ≤ a - p ∨ ab (a - p) = -(a - p) ∧ a - p < 0 := by unfold ab; split <;> omega
  refine ⟨h0, h1, h2, by omega, by omega, fun hh => ?_⟩
  rcases h3 with h3 | h3
  · omega
  · exact h3.2

theorem quo_neg_l (a d : Int) : quo (-a) d = quo a d := by
  have : ab (-a) = ab a := by unfold ab; split <;> split <;> omega
  unfold quo; rw [this]
theorem quo_neg_r (a d : Int) : quo a (-d) = quo a d := by
  have : ab (-d) = ab d := by unfold ab; split <;> split <;> omega
  unfold quo; rw [this]
theorem quo_zero (d : Int) : quo 0 d = 0 := by
  have : ab (0 : Int) = 0 := rfl
  unfold quo; rw [this]
  unfold ru
  simp only [Int.zero_ediv, Int.zero_emod]
  have := ab_nonneg d
  rw [if_neg (by omega)]
  rfl
theorem ok_neg_l (a d : Int) : dvOk (-a) d = dvOk a d := by unfold dvOk; rw [quo_neg_l]
theorem ok_neg_r (a d : Int) : dvOk a (-d) = dvOk a d := by unfold dvOk; rw [quo_neg_r]; congr 2; rw [eq_iff_iff]; omega
theorem dv_zero (d : Int) : dv 0 d = 0 := by
  unfold dv sq
  rw [quo_zero]
  split
  · split <;> rfl
  · rfl
theorem dv_neg_l (a d : Int) : dv (-a) d = -dv a d := by
  by_cases h0 : a = 0
  · subst h0; rw [Int.neg_zero, dv_zero]; rfl
  · unfold dv
    rw [ok_neg_l]
    split
    · unfold sq
      rw [quo_neg_l]
      split <;> split <;> omega
    · rfl
theorem dv_neg_r (a d : Int) : dv a (-d) = -dv a d := by
  by_cases h0 : a = 0
  · subst h0; rw [dv_zero, dv_zero]; rfl
  · by_cases hd : d = 0
    · subst hd
      have : ∀ a : Int, dv a 0 = 0 := fun a => no_result (by unfold dvOk; simp)
      rw [Int.neg_zero, this]; rfl
    · unfold dv
      rw [ok_neg_r]
      split
      · unfold sq
        rw [quo_neg_r]
        split <;> split <;> omega
      · rfl
/-- A greater number has no lesser quotient. -/
theorem dv_mono {a b d : Int} (hd : 0 < d) (hab : a ≤ b) (ha : dvOk a d = true) (hb : dvOk b d = true) : dv a d ≤ dv b d := by
  obtain ⟨_, _, _, a1, a2, a3⟩ := near ha
  obtain ⟨_, _, _, b1, b2, b3⟩ := near hb
  have e : ab d = d := by unfold ab; rw [if_neg (by omega)]
  rw [e] at a1 a2 a3 b1 b2 b3
  have hm : ∀ y : Int, y.tmod 2 = 0 → y % 2 = 0 := fun y hy => Int.emod_eq_zero_of_dvd (Int.dvd_of_tmod_eq_zero hy)
  replace a3 := fun h => hm _ (a3 h)
  replace b3 := fun h => hm _ (b3 h)
  clear hm
  generalize dv a d = x at *
  generalize dv b d = y at *
  by_cases h : x ≤ y
  · exact h
  · exfalso
    by_cases h2 : y + 2 ≤ x
    · have := Int.mul_le_mul_of_nonneg_right h2 (show 0 ≤ d from by omega)
      rw [Int.add_mul] at this
      generalize x * d = X at *
      generalize y * d = Y at *
      omega
    · obtain rfl : x = y + 1 := by omega
      rw [Int.add_mul, Int.one_mul] at a1 a2 a3
      generalize y * d = Y at *
      omega
end Go.Proofs.YtbahfelnbofjjaaGreatDoor.dec
namespace Go.Proofs.YtbahfelnbofjjaaGreatDoor.dec
open Go.RowKit Go.Shelf
theorem Tryz.lays134 : Go.Proofs.Lays.n134 Tryz.prog ⟨fun | 134 => 306 | 129 => 195 | n => n, fun | 53 => 212 | 3 => 3 | 4 => 4 | 46 => 170 | 5 => 5 | 9 => 9 | n => n, fun | n => n⟩ := {
  mixed := by kernel_rfl
  f129 := Tryz.func195.trans (congrArg some (by kernel_rfl))
  f134 := Tryz.func306.trans (congrArg some (by kernel_rfl))
  t3 := Tryz.underlying3
  a3 := Tryz.isAgg3
  z3 := Tryz.sizeOf3
  v3 := Tryz.zeroValue3
  t4 := Tryz.underlying4
  a4 := Tryz.isAgg4
  z4 := Tryz.sizeOf4
  v4 := Tryz.zeroValue4
  t5 := Tryz.underlying5
  a5 := Tryz.isAgg5
  z5 := Tryz.sizeOf5
  v5 := Tryz.zeroValue5
  t9 := Tryz.underlying9
  a9 := Tryz.isAgg9
  z9 := Tryz.sizeOf9
  v9 := Tryz.zeroValue9
  t46 := Tryz.underlying170
  a46 := Tryz.isAgg170
  z46 := Tryz.sizeOf170
  v46 := Tryz.zeroValue170
  t53 := Tryz.underlying212
  a53 := Tryz.isAgg212
  z53 := Tryz.sizeOf212
  v53 := Tryz.zeroValue212 }

theorem lead_any (x s : Int) (w : World) (h0 : 0 ≤ x) (h1 : x ≤ 18446744073709551615) (hs : 64 - (Lib.bitLen x.toNat : Int) = s) :
    Calls Tryz.prog 306 #[.int .u64 x] w fun e w' => e = .returned (.int .i64 s) ∧ w = w' := by
  refine (Any.bits_LeadingZeros64 Tryz.lays134 x w h0 h1).mono ?_
  rintro e w' ⟨rfl, rfl⟩
  rw [hs]
  exact ⟨rfl, rfl⟩

set_option maxHeartbeats 2000000 in
theorem div64_core (hi lo y s Y u l y1 y0 v1 v0 : Int) (w : World) (h1 : 1 ≤ hi) (h2 : hi < y) (h3 : y ≤ 18446744073709551615) (_h4 : 0 ≤ lo) (_h5 : lo ≤ 18446744073709551615)
    (hs : Hid (64 - (Lib.bitLen y.toNat : Int) = s)) (s1 : 0 ≤ s) (s2 : s ≤ 63)
    (wY : IntKind.u64.wrap (y * 2 ^ s.toNat) = Y) (wu : bits BinOp.or IntKind.u64 (IntKind.u64.wrap (hi * 2 ^ s.toNat)) (lo / 2 ^ (64 - s).toNat) = u) (wl : IntKind.u64.wrap (lo * 2 ^ s.toNat) = l)
    (wy1 : Y / 4294967296 = y1) (wy0 : bits .and .u64 Y 4294967295 = y0) (wv1 : l / 4294967296 = v1) (wv0 : bits .and .u64 l 4294967295 = v0)
    (Y1 : Y ≤ 18446744073709551615) (u0 : 0 ≤ u) (u1 : u ≤ 18446744073709551615) (_l0 : 0 ≤ l) (_l1 : l ≤ 18446744073709551615)
    (ya : 2147483648 ≤ y1) (yb : y1 ≤ 4294967295) (yc : 0 ≤ y0) (yd : y0 ≤ 4294967295) (va : 0 ≤ v1) (vb : v1 ≤ 4294967295) (vc : 0 ≤ v0) (vd : v0 ≤ 4294967295)
    (K1 : Kn Y y1 y0 u v1) (K2 : Kn Y y1 y0 (rst u v1 Y) v0) :
    Calls Tryz.prog 288 #[.int .u64 hi, .int .u64 lo, .int .u64 y] w fun e w' => e = .returned (.tuple #[.int .u64 (dig u v1 Y * 4294967296 + dig (rst u v1 Y) v0 Y), .int .u64 (rst (rst u v1 Y) v0 Y / 2 ^ s.toNat)]) ∧ w = w' := by
  have a1 := K1.start
  obtain ⟨a2, a3⟩ := a1
  have a4 : 0 ≤ u / y1 := by have := K1.nonneg; omega
  have a5 : u / y1 * y1 ≤ u := Int.ediv_mul_le _ (by omega)
  have a6 : 0 ≤ u / y1 * y1 := Int.mul_nonneg a4 (by omega)
  have a7 : u - u / y1 * y1 < y1 := by have := Int.emod_lt_of_pos u (show 0 < y1 from by omega); rw [Int.emod_def, Int.mul_comm y1] at this; exact this
  have H2 := Lib.hid a2; clear a2
  go_enter Tryz.func288, Tryz.ntmps288
  go_upto_block 0 with (go_at_call 306; refine (lead_any y s _ (by omega) h3 hs.out).mono ?_; rintro e w' ⟨rfl, rfl⟩)
  go_cut [15] (fun q wx => q = .int .u64 (dig u v1 Y) ∧ wx = w)
  case first =>
    go_wp2_with fail
    go_loop [15, 16] (fun q r => ∃ a b : Int, q = .int .u64 a ∧ r = .int .u64 b ∧ 0 ≤ a ∧ 0 ≤ b ∧ b ≤ 4294967295 ∧ Guess y1 u (dig u v1 Y) a b) (fun q _ => (intOf q).toNat)
    case atStart => exact ⟨_, _, rfl, rfl, a4, by omega, by omega, H2.out, a3, by omega⟩
    case round =>
      obtain ⟨a, b, rfl, rfl, a0, b0, b1, g1, g2, g3⟩ := hrel
      have T := Lib.hid (K1.test g3)
      have d0 := K1.nonneg
      have d1 := K1.lt
      have G3 := Lib.hid (step_eq g3)
      have U : Hid (4294967296 ≤ b + y1 → a ≤ 4294967297 → a - 1 ≤ dig u v1 Y) := fun h h' => K1.out (step_eq g3) (by omega) h
      clear g3
      by_cases c1 : 4294967296 ≤ a
      · by_cases c3 : 4294967296 ≤ b + y1
        · go_wp2
          go_meet
          have e : a - 1 = dig u v1 Y := by have := U.out c3 g2; omega
          exact ⟨by rw [← e], rfl⟩
        · go_wp2
          exact ⟨⟨a - 1, b + y1, rfl, rfl, by omega, by omega, by omega, by omega, by omega, G3.out⟩, by simp [intOf]; omega⟩
      · have m0 : 0 ≤ a * y0 := Int.mul_nonneg a0 yc
        have m1 : a * y0 ≤ 18446744073709551615 := by have := Int.mul_le_mul (show a ≤ 4294967295 from by omega) yd yc (by omega); omega
        by_cases c2 : 4294967296 * b + v1 < a * y0
        · have f : dig u v1 Y < a := by have := T.out; omega
          by_cases c3 : 4294967296 ≤ b + y1
          · go_wp2
            go_meet
            have e : a - 1 = dig u v1 Y := by have := U.out c3 g2; omega
            exact ⟨by rw [← e], rfl⟩
          · go_wp2
            exact ⟨⟨a - 1, b + y1, rfl, rfl, by omega, by omega, by omega, by omega, by omega, G3.out⟩, by simp [intOf]; omega⟩
        · have f : a = dig u v1 Y := by have := T.out; omega
          have F := Lib.hid f
          clear f
          go_wp2
          go_meet
          exact ⟨by rw [← F.out], rfl⟩
  case rest =>
    obtain ⟨rfl, rfl⟩ := hcut
    clear a3 a4 a5 a6 a7 H2
    obtain ⟨r0, r1⟩ := K1.rest
    change 0 ≤ rst u v1 Y at r0
    change rst u v1 Y < Y at r1
    have E := wrap_rst r0 (by omega)
    have d0 := K1.nonneg
    have d1 := K1.lt
    have a1 := K2.start
    obtain ⟨a2, a3⟩ := a1
    obtain ⟨z0, z1⟩ := K2.rest
    change 0 ≤ rst (rst u v1 Y) v0 Y at z0
    change rst (rst u v1 Y) v0 Y < Y at z1
    have E' := wrap_rst z0 (by omega)
    have e0 := K2.nonneg
    have e1 := K2.lt
    generalize hu' : rst u v1 Y = u' at *
    have HU := Lib.hid hu'
    clear hu'
    have a4 : 0 ≤ u' / y1 := by omega
    have a5 : u' / y1 * y1 ≤ u' := Int.ediv_mul_le _ (by omega)
    have a6 : 0 ≤ u' / y1 * y1 := Int.mul_nonneg a4 (by omega)
    have a7 : u' - u' / y1 * y1 < y1 := by have := Int.emod_lt_of_pos u' (show 0 < y1 from by omega); rw [Int.emod_def, Int.mul_comm y1] at this; exact this
    have H2 := Lib.hid a2; clear a2
    go_upto_block 2 with fail
    go_cut [18] (fun q wx => q = .int .u64 (dig u' v0 Y) ∧ wx = wc)
    case first =>
      go_wp2_with fail
      go_loop [18, 16] (fun q r => ∃ a b : Int, q = .int .u64 a ∧ r = .int .u64 b ∧ 0 ≤ a ∧ 0 ≤ b ∧ b ≤ 4294967295 ∧ Guess y1 u' (dig u' v0 Y) a b) (fun q _ => (intOf q).toNat)
      case atStart => exact ⟨_, _, rfl, rfl, a4, by omega, by omega, H2.out, a3, by omega⟩
      case round =>
        obtain ⟨a, b, rfl, rfl, a0, b0, b1, g1, g2, g3⟩ := hrel
        have T := Lib.hid (K2.test g3)
        have d0 := K2.nonneg
        have d1 := K2.lt
        have G3 := Lib.hid (step_eq g3)
        have U : Hid (4294967296 ≤ b + y1 → a ≤ 4294967297 → a - 1 ≤ dig u' v0 Y) := fun h h' => K2.out (step_eq g3) (by omega) h
        clear g3
        by_cases c1 : 4294967296 ≤ a
        · by_cases c3 : 4294967296 ≤ b + y1
          · go_wp2
            go_meet
            have e : a - 1 = dig u' v0 Y := by have := U.out c3 g2; omega
            exact ⟨by rw [← e], rfl⟩
          · go_wp2
            exact ⟨⟨a - 1, b + y1, rfl, rfl, by omega, by omega, by omega, by omega, by omega, G3.out⟩, by simp [intOf]; omega⟩
        · have m0 : 0 ≤ a * y0 := Int.mul_nonneg a0 yc
          have m1 : a * y0 ≤ 18446744073709551615 := by have := Int.mul_le_mul (show a ≤ 4294967295 from by omega) yd yc (by omega); omega
          by_cases c2 : 4294967296 * b + v0 < a * y0
          · have f : dig u' v0 Y < a := by have := T.out; omega
            by_cases c3 : 4294967296 ≤ b + y1
            · go_wp2
              go_meet
              have e : a - 1 = dig u' v0 Y := by have := U.out c3 g2; omega
              exact ⟨by rw [← e], rfl⟩
            · go_wp2
              exact ⟨⟨a - 1, b + y1, rfl, rfl, by omega, by omega, by omega, by omega, by omega, G3.out⟩, by simp [intOf]; omega⟩
          · have f : a = dig u' v0 Y := by have := T.out; omega
            have F := Lib.hid f
            clear f
            go_wp2
            go_meet
            exact ⟨by rw [← F.out], rfl⟩
    case rest =>
      obtain ⟨rfl, rfl⟩ := hcut
      clear a3 a4 a5 a6 a7 H2
      go_wp2
      go_ret2
      exact ⟨by rw [HU.out]; rfl, rfl⟩

/-- math/bits.Div64 where the quotient fits. -/
theorem div64_any (hi lo y : Int) (w : World) (h1 : 0 ≤ hi) (h2 : hi < y) (h3 : y ≤ 18446744073709551615) (h4 : 0 ≤ lo) (h5 : lo ≤ 18446744073709551615) :
    Calls Tryz.prog 288 #[.int .u64 hi, .int .u64 lo, .int .u64 y] w fun e w' => e = .returned (.tuple #[.int .u64 ((hi * 18446744073709551616 + lo) / y), .int .u64 ((hi * 18446744073709551616 + lo) % y)]) ∧ ∃ n, w' = w.drewN n := by
  by_cases h0 : hi = 0
  · subst h0
    have e1 : (0 : Int) * 18446744073709551616 + lo = lo := by omega
    rw [e1]
    clear e1
    go_enter Tryz.func288, Tryz.ntmps288
    go_wp2
    go_quiet (fail)
    go_wp2
    go_ret2
    exact ⟨rfl, _, rfl⟩
  · obtain ⟨s, Y, u, l, N⟩ := norm_any hi lo y h1 h2 h3 h4 h5
    have Y0 := N.Y0; have Y1 := N.Y1; have u0 := N.u0; have u1 := N.u1; have l0 := N.l0; have l1 := N.l1
    have ay := and_low Y (by omega) Y1
    have al := and_low l l0 l1
    have K1 : Kn Y (Y / 4294967296) (Y % 4294967296) u (l / 4294967296) := ⟨by omega, by omega, by omega, by omega, by omega, u0, u1, by omega, by omega⟩
    have R := K1.rest
    have K2 : Kn Y (Y / 4294967296) (Y % 4294967296) (rst u (l / 4294967296) Y) (l % 4294967296) := ⟨by omega, by omega, by omega, by omega, by omega, R.1, R.2, by omega, by omega⟩
    have D := two_digits (N := hi * 18446744073709551616 + lo) (v1 := l / 4294967296) (v0 := l % 4294967296) N.pos N.eN N.eY (by omega) (by omega) K2.rest.1 K2.rest.2
    refine (div64_core hi lo y s Y u l _ _ _ _ w (by omega) h2 h3 h4 h5 N.len N.s0 N.s1 N.wY N.wu N.wl rfl ay rfl al Y1 u0 (by omega) l0 l1 (by omega) (by omega) (by omega) (by omega) (by omega) (by omega) (by omega) (by omega) K1 K2).mono ?_
    rintro e w' ⟨rfl, rfl⟩
    rw [D.1, D.2]
    exact ⟨rfl, 0, rfl⟩
end Go.Proofs.YtbahfelnbofjjaaGreatDoor.dec

namespace Go.Proofs.YtbahfelnbofjjaaGreatDoor.dec
open Go.RowKit Go.Shelf

theorem keeps_alloc {w : World} {p : Addr} {v : Value} (o : Obj) (h : w.cell? p = some v) : (w.alloc o).cell? p = some v := by
  rw [World.cell?_alloc_lt _ _ _ (block_lt_of_cell h)]; exact h
theorem below_drewN' {B : Nat} {a w : World} (h : Below B a w) (n : Nat) : Below B a (w.drewN n) := ⟨h.os, h.tape, h.output, h.size, h.block⟩
theorem divide_below {w w1 w2 : World} {o1 o2 : Obj} (o3 : Obj) (hb1 : Below (w.alloc o1).heap.size (w.alloc o1) w1) (hb2 : Below (w1.alloc o2).heap.size (w1.alloc o2) w2) : Below w.heap.size w (w2.alloc o3) := by
  have s1 := hb1.size
  have s2 := hb2.size
  simp only [World.size_alloc] at s1 s2
  have b1 : Below w.heap.size w w1 := ((Below.refl _ _).alloc (Nat.le_refl _) _).trans (hb1.mono (by simp))
  have b2 : Below w.heap.size w w2 := (b1.alloc (by omega) _).trans (hb2.mono (by simp; omega))
  exact b2.alloc (by omega) _

set_option maxHeartbeats 1000000 in
/-- exact.Divide. -/
theorem divide_any {y : Value} {a : Int} (d : Int) (hx : y = W a) (ia : In a) (w : World) (d1 : -9223372036854775808 ≤ d) (d2 : d ≤ 9223372036854775807) :
    Calls Tryz.prog 243 #[y, .int .i64 d] w fun e w' => e = .returned (.tuple #[.int .i64 (dv a d), .bool (dvOk a d)]) ∧ Below w.heap.size w w' := by
  subst hx
  obtain ⟨A, D, ah, al, q, r, x, h⟩ : ∃ A D ah al q r x, Dv a d A D ah al q r x := ⟨_, _, _, _, _, _, _, rfl, rfl, rfl, rfl, rfl, rfl, rfl⟩
  have id : In d := by unfold In; omega
  have sa := hi_neg ia
  have rA := ab_nonneg a
  have rD := ab_nonneg d
  have rD' : ab d ≤ 9223372036854775808 := by unfold ab; split <;> omega
  have rA' : ab a ≤ 170141183460469231731687303715884105728 := by unfold In at ia; unfold ab; split <;> omega
  have cA := size_any (a := a) rfl ia
  have cD := size_any (a := d) rfl id
  rw [h.A0, h.eah, h.eal] at cA
  rw [h.D0] at cD rD rD'
  rw [h.A0] at rA rA'
  have eD : D % 18446744073709551616 = D := by omega
  rw [eD] at cD
  have bh1 : 0 ≤ ah := by have := h.eah; omega
  have bl1 : 0 ≤ al := by have := h.eal; omega
  have bl2 : al ≤ 18446744073709551615 := by have := h.eal; omega
  have CA := Lib.hid cA
  have CD := Lib.hid cD
  clear cA cD eD
  have i0 : ∀ w, (Instr.index 274 (.agg #[.int .u64 D, .int .u64 (D / 18446744073709551616)]) (.int .i64 0)).run Tryz.prog w = .ok (.int .u64 D) w := fun _ => by kernel_rfl
  unfold W
  by_cases c1 : D ≤ ah
  · have R1 := Lib.hid (h.none1 c1)
    have R2 := Lib.hid (dv_no R1.out)
    clear h
    go_enter Tryz.func243, Tryz.ntmps243
    go_wp2_with fail
    refine (CA.out _).mono ?_
    rintro e w1 ⟨rfl, hb1⟩
    obtain ⟨hc1, hf1, hs1⟩ := bfacts hb1
    go_wp2_with fail
    refine (of_any _ _ d1 d2).mono ?_
    rintro e w' ⟨rfl, k1, rfl⟩
    go_wp2_with fail
    refine (CD.out _).mono ?_
    rintro e w2 ⟨rfl, hb2⟩
    obtain ⟨hc2, hf2, hs2⟩ := bfacts hb2
    go_wp2_with fail
    go_ret2
    exact ⟨by rw [R1.out, R2.out]; rfl, divide_below _ hb1 hb2⟩
  · have q0 : 0 ≤ q := by rw [h.eq]; exact Int.ediv_nonneg rA rD
    have q1 : q ≤ 18446744073709551615 := by
      have : q < 18446744073709551616 := by rw [h.eq, Int.ediv_lt_iff_lt_mul (by omega)]; have := h.eah; omega
      omega
    have r0 : 0 ≤ r := by rw [h.er]; exact Int.emod_nonneg _ (by omega)
    have r1 : r < D := by rw [h.er]; exact Int.emod_lt_of_pos _ (by omega)
    obtain ⟨x0, x1⟩ := ru_range q r D
    rw [← h.ex] at x0 x1
    have eA : ah * 18446744073709551616 + al = A := by have := h.eah; have := h.eal; omega
    have CV : Hid (∀ w, Calls Tryz.prog 288 #[.int .u64 ah, .int .u64 al, .int .u64 D] w fun e w' => e = .returned (.tuple #[.int .u64 q, .int .u64 r]) ∧ ∃ n, w' = w.drewN n) := by
      intro w
      have := div64_any ah al D w bh1 (by omega) (by omega) bl1 bl2
      rw [eA, ← h.eq, ← h.er] at this
      exact this
    have CR : Hid (∀ w, Calls Tryz.prog 289 #[.int .u64 q, .int .u64 r, .int .u64 D] w fun e w' => e = .returned (.int .u64 x) ∧ w = w') := by
      intro w
      have := roundUp_any q r D w q0 r0 r1 (by omega)
      rw [← h.ex] at this
      exact this
    clear eA
    have R3 := Lib.hid (fun g => h.none3 g)
    have R2 := Lib.hid (fun g => h.none2 g)
    have R4 := Lib.hid (fun g => h.some (by omega) g)
    have R5 := Lib.hid h.sq
    clear h
    by_cases c2 : 1152921504606846976 < q
    · have R1 := Lib.hid (R3.out c2)
      have R2 := Lib.hid (dv_no R1.out)
      go_enter Tryz.func243, Tryz.ntmps243
      go_wp2_with fail
      refine (CA.out _).mono ?_
      rintro e w1 ⟨rfl, hb1⟩
      obtain ⟨hc1, hf1, hs1⟩ := bfacts hb1
      go_wp2_with fail
      refine (of_any _ _ d1 d2).mono ?_
      rintro e w' ⟨rfl, k1, rfl⟩
      go_wp2_with fail
      refine (CD.out _).mono ?_
      rintro e w2 ⟨rfl, hb2⟩
      obtain ⟨hc2, hf2, hs2⟩ := bfacts hb2
      go_wp2_with fail
      refine (CV.out _).mono ?_
      rintro e w' ⟨rfl, n, rfl⟩
      go_wp2_with fail
      go_ret2
      exact ⟨by rw [R1.out, R2.out]; rfl, below_drewN' (divide_below _ hb1 hb2) _⟩
    · by_cases c3 : 1152921504606846976 < q + x
      · have R1 := Lib.hid (R2.out c3)
        have R2 := Lib.hid (dv_no R1.out)
        go_enter Tryz.func243, Tryz.ntmps243
        go_wp2_with fail
        refine (CA.out _).mono ?_
        rintro e w1 ⟨rfl, hb1⟩
        obtain ⟨hc1, hf1, hs1⟩ := bfacts hb1
        go_wp2_with fail
        refine (of_any _ _ d1 d2).mono ?_
        rintro e w' ⟨rfl, k1, rfl⟩
        go_wp2_with fail
        refine (CD.out _).mono ?_
        rintro e w2 ⟨rfl, hb2⟩
        obtain ⟨hc2, hf2, hs2⟩ := bfacts hb2
        go_wp2_with fail
        refine (CV.out _).mono ?_
        rintro e w' ⟨rfl, n, rfl⟩
        go_wp2_with fail
        refine (CR.out _).mono ?_
        rintro e w' ⟨rfl, rfl⟩
        go_wp2_with fail
        go_ret2
        exact ⟨by rw [R1.out, R2.out]; rfl, below_drewN' (divide_below _ hb1 hb2) _⟩
      · have R1 := Lib.hid (R4.out (by omega))
        have R6 := Lib.hid (dv_yes R1.out)
        by_cases s1 : a < 0
        · have s1' : hi a < 0 := sa.2 s1
          have s1'' : decide (hi a < 0) = true := by simp; omega
          clear sa
          by_cases s2 : d < 0
          · have s2' : decide (d < 0) = true := by simp; omega
            have R7 : Hid (sq a d = q + x) := by unfold Hid; rw [R5.out, if_neg (by omega)]
            go_enter Tryz.func243, Tryz.ntmps243
            go_wp2_with fail
            refine (CA.out _).mono ?_
            rintro e w1 ⟨rfl, hb1⟩
            have f1 := keeps hb1 (k := w.heap.size) (o := 0) (v := .int .i64 (hi a)) (by simp [go_sem])
            go_wp2_with fail
            refine (of_any _ _ d1 d2).mono ?_
            rintro e w' ⟨rfl, k1, rfl⟩
            go_wp2_with fail
            refine (CD.out _).mono ?_
            rintro e w2 ⟨rfl, hb2⟩
            have f2 := keeps hb2 (keeps_alloc _ f1)
            have z2 : w.heap.size < w2.heap.size := block_lt_of_cell f2
            go_wp2_with fail
            refine (CV.out _).mono ?_
            rintro e w' ⟨rfl, n, rfl⟩
            go_wp2_with fail
            refine (CR.out _).mono ?_
            rintro e w' ⟨rfl, rfl⟩
            go_wp2_with fail
            go_ret2
            exact ⟨by rw [R1.out, R6.out, R7.out]; rfl, below_drewN' (divide_below _ hb1 hb2) _⟩
          · have s2' : decide (d < 0) = false := by simp; omega
            have R7 : Hid (sq a d = -(q + x)) := by unfold Hid; rw [R5.out, if_pos (by omega)]
            go_enter Tryz.func243, Tryz.ntmps243
            go_wp2_with fail
            refine (CA.out _).mono ?_
            rintro e w1 ⟨rfl, hb1⟩
            have f1 := keeps hb1 (k := w.heap.size) (o := 0) (v := .int .i64 (hi a)) (by simp [go_sem])
            go_wp2_with fail
            refine (of_any _ _ d1 d2).mono ?_
            rintro e w' ⟨rfl, k1, rfl⟩
            go_wp2_with fail
            refine (CD.out _).mono ?_
            rintro e w2 ⟨rfl, hb2⟩
            have f2 := keeps hb2 (keeps_alloc _ f1)
            have z2 : w.heap.size < w2.heap.size := block_lt_of_cell f2
            go_wp2_with fail
            refine (CV.out _).mono ?_
            rintro e w' ⟨rfl, n, rfl⟩
            go_wp2_with fail
            refine (CR.out _).mono ?_
            rintro e w' ⟨rfl, rfl⟩
            go_wp2_with fail
            go_ret2
            exact ⟨by rw [R1.out, R6.out, R7.out]; rfl, below_drewN' (divide_below _ hb1 hb2) _⟩
        · have s1' : ¬ hi a < 0 := by omega
          have s1'' : decide (hi a < 0) = false := by simp; omega
          clear sa
          by_cases s2 : d < 0
          · have s2' : decide (d < 0) = true := by simp; omega
            have R7 : Hid (sq a d = -(q + x)) := by unfold Hid; rw [R5.out, if_pos (by omega)]
            go_enter Tryz.func243, Tryz.ntmps243
            go_wp2_with fail
            refine (CA.out _).mono ?_
            rintro e w1 ⟨rfl, hb1⟩
            have f1 := keeps hb1 (k := w.heap.size) (o := 0) (v := .int .i64 (hi a)) (by simp [go_sem])
            go_wp2_with fail
            refine (of_any _ _ d1 d2).mono ?_
            rintro e w' ⟨rfl, k1, rfl⟩
            go_wp2_with fail
            refine (CD.out _).mono ?_
            rintro e w2 ⟨rfl, hb2⟩
            have f2 := keeps hb2 (keeps_alloc _ f1)
            have z2 : w.heap.size < w2.heap.size := block_lt_of_cell f2
            go_wp2_with fail
            refine (CV.out _).mono ?_
            rintro e w' ⟨rfl, n, rfl⟩
            go_wp2_with fail
            refine (CR.out _).mono ?_
            rintro e w' ⟨rfl, rfl⟩
            go_wp2_with fail
            go_ret2
            exact ⟨by rw [R1.out, R6.out, R7.out]; rfl, below_drewN' (divide_below _ hb1 hb2) _⟩
          · have s2' : decide (d < 0) = false := by simp; omega
            have R7 : Hid (sq a d = q + x) := by unfold Hid; rw [R5.out, if_neg (by omega)]
            go_enter Tryz.func243, Tryz.ntmps243
            go_wp2_with fail
            refine (CA.out _).mono ?_
            rintro e w1 ⟨rfl, hb1⟩
            have f1 := keeps hb1 (k := w.heap.size) (o := 0) (v := .int .i64 (hi a)) (by simp [go_sem])
            go_wp2_with fail
            refine (of_any _ _ d1 d2).mono ?_
            rintro e w' ⟨rfl, k1, rfl⟩
            go_wp2_with fail
            refine (CD.out _).mono ?_
            rintro e w2 ⟨rfl, hb2⟩
            have f2 := keeps hb2 (keeps_alloc _ f1)
            have z2 : w.heap.size < w2.heap.size := block_lt_of_cell f2
            go_wp2_with fail
            refine (CV.out _).mono ?_
            rintro e w' ⟨rfl, n, rfl⟩
            go_wp2_with fail
            refine (CR.out _).mono ?_
            rintro e w' ⟨rfl, rfl⟩
            go_wp2_with fail
            go_ret2
            exact ⟨by rw [R1.out, R6.out, R7.out]; rfl, below_drewN' (divide_below _ hb1 hb2) _⟩
end Go.Proofs.YtbahfelnbofjjaaGreatDoor.dec

namespace Go.Proofs.YtbahfelnbofjjaaGreatDoor.dec
open Go.RowKit Go.Shelf

theorem bnext {w a b : World} (h : Below w.heap.size w a) (k : Below a.heap.size a b) : Below w.heap.size w b := h.trans (k.mono h.size)
theorem balloc {w a : World} (h : Below w.heap.size w a) (o : Obj) : Below w.heap.size w (a.alloc o) := h.alloc h.size o
theorem b0 (w : World) : Below w.heap.size w w := Below.refl _ _

theorem of_b (n : Int) (w : World) (h1 : -9223372036854775808 ≤ n) (h2 : n ≤ 9223372036854775807) :
    Calls Tryz.prog 242 #[.int .i64 n] w fun e w' => e = .returned (W n) ∧ Below w.heap.size w w' :=
  (of_any n w h1 h2).mono fun _ _ ⟨he, _, hw⟩ => ⟨he, hw ▸ balloc (b0 w) _⟩
theorem sub_b {x y : Value} {a b : Int} (hx : x = W a) (hy : y = W b) (w : World) :
    Calls Tryz.prog 314 #[x, y] w fun e w' => e = .returned (W (a - b)) ∧ Below w.heap.size w w' :=
  (sub_any hx hy w).mono fun _ _ ⟨he, _, _, _, hw⟩ => ⟨he, hw ▸ balloc (balloc (balloc (b0 w) _) _) _⟩
theorem neg_b {x : Value} {a : Int} (hx : x = W a) (w : World) :
    Calls Tryz.prog 305 #[x] w fun e w' => e = .returned (W (-a)) ∧ Below w.heap.size w w' :=
  (neg_any hx w).mono fun _ _ ⟨he, _, _, _, _, _, hw⟩ => ⟨he, hw ▸ balloc (balloc (balloc (balloc (balloc (b0 w) _) _) _) _) _⟩
/-! The contracts with the pair written out. -/
theorem of_u (n : Int) (w : World) (h1 : -9223372036854775808 ≤ n) (h2 : n ≤ 9223372036854775807) :
    Calls Tryz.prog 242 #[.int .i64 n] w fun e w' => e = .returned (.agg #[.int .i64 (hi n), .int .u64 (lo n)]) ∧ Go.RowKit.Below w.heap.size w w' := of_b n w h1 h2
theorem sub_u (a b : Int) (w : World) :
    Calls Tryz.prog 314 #[.agg #[.int .i64 (hi a), .int .u64 (lo a)], .agg #[.int .i64 (hi b), .int .u64 (lo b)]] w fun e w' => e = .returned (.agg #[.int .i64 (hi (a - b)), .int .u64 (lo (a - b))]) ∧ Go.RowKit.Below w.heap.size w w' := sub_b rfl rfl w
theorem neg_u (a : Int) (w : World) :
    Calls Tryz.prog 305 #[.agg #[.int .i64 (hi a), .int .u64 (lo a)]] w fun e w' => e = .returned (.agg #[.int .i64 (hi (-a)), .int .u64 (lo (-a))]) ∧ Go.RowKit.Below w.heap.size w w' := neg_b rfl w
theorem mul_u (a b : Int) (w : World) (h1 : -9223372036854775808 ≤ a) (h2 : a ≤ 9223372036854775807) (h3 : -9223372036854775808 ≤ b) (h4 : b ≤ 9223372036854775807) :
    Calls Tryz.prog 203 #[.int .i64 a, .int .i64 b] w fun e w' => e = .returned (.agg #[.int .i64 (hi (a * b)), .int .u64 (lo (a * b))]) ∧ Go.RowKit.Below w.heap.size w w' := mul_any a b w h1 h2 h3 h4
theorem scale_u (a n : Int) (w : World) (h1 : -9223372036854775808 ≤ n) (h2 : n ≤ 9223372036854775807) :
    Calls Tryz.prog 258 #[.agg #[.int .i64 (hi a), .int .u64 (lo a)], .int .i64 n] w fun e w' => e = .returned (.agg #[.int .i64 (hi (a * n)), .int .u64 (lo (a * n))]) ∧ Go.RowKit.Below w.heap.size w w' := scale_any n rfl w h1 h2

theorem divide_at {a d r : Int} {b : Bool} (ia : In a) (d1 : -9223372036854775808 ≤ d) (d2 : d ≤ 9223372036854775807) (hr : dv a d = r) (hb : dvOk a d = b) (w : World) :
    Calls Tryz.prog 243 #[.agg #[.int .i64 (hi a), .int .u64 (lo a)], .int .i64 d] w fun e w' => e = .returned (.tuple #[.int .i64 r, .bool b]) ∧ Go.RowKit.Below w.heap.size w w' := by
  have := divide_any (a := a) d rfl ia w d1 d2
  rw [hr, hb] at this
  exact this
theorem cmp_cases (a b : Int) : (a < b ∧ cmp a b = -1) ∨ (a = b ∧ cmp a b = 0) ∨ (b < a ∧ cmp a b = 1) := by
  rcases Int.lt_trichotomy a b with h | h | h
  · exact .inl ⟨h, cmp_lt h⟩
  · exact .inr (.inl ⟨h, cmp_eq h⟩)
  · exact .inr (.inr ⟨h, cmp_gt h⟩)

/-! A variable of type Wide: the block k holds the pair of a. -/
def Box (w : World) (k : Nat) (a : Int) : Prop := w.cell? ⟨k, 0, none⟩ = some (.int .i64 (hi a)) ∧ w.cell? ⟨k, 1, none⟩ = some (.int .u64 (lo a))
theorem Box.new (w : World) (a : Int) : Box (w.alloc (.cells #[.int .i64 (hi a), .int .u64 (lo a)] 221)) w.heap.size a := ⟨by simp [go_sem], by simp [go_sem]⟩
theorem Box.keeps {w w1 : World} {k : Nat} {a : Int} (h : Box w k a) (hb : Go.RowKit.Below w.heap.size w w1) : Box w1 k a := ⟨Go.Proofs.YtbahfelnbofjjaaGreatDoor.dec.keeps hb h.1, Go.Proofs.YtbahfelnbofjjaaGreatDoor.dec.keeps hb h.2⟩
theorem Box.past {w : World} {k : Nat} {a : Int} (h : Box w k a) (o : Obj) : Box (w.alloc o) k a := ⟨keeps_alloc o h.1, keeps_alloc o h.2⟩
theorem Box.lt {w : World} {k : Nat} {a : Int} (h : Box w k a) : k < w.heap.size := block_lt_of_cell h.1
theorem Box.regrown {w : World} {k : Nat} {a : Int} (h : Box w k a) :
    (∀ d os, (Sort.grow (redrawn w d) os).cell? ⟨k, 0, none⟩ = some (.int .i64 (hi a))) ∧ (∀ d os, (Sort.grow (redrawn w d) os).cell? ⟨k, 1, none⟩ = some (.int .u64 (lo a))) := ⟨cell_regrown h.1, cell_regrown h.2⟩

theorem Box.put {w : World} {k : Nat} {a : Int} (h : Box w k a) (b : Int) : Box ((w.setCell ⟨k, 0, none⟩ (.int .i64 (hi b))).setCell ⟨k, 1, none⟩ (.int .u64 (lo b))) k b := read2 h.1 h.2 _ _
theorem Box.off {w : World} {k k' : Nat} {a : Int} (h : Box w k a) (hk : k' ≠ k) (u v : Value) : Box ((w.setCell ⟨k', 0, none⟩ u).setCell ⟨k', 1, none⟩ v) k a := by
  have e : ∀ o o', (⟨k', o, none⟩ : Addr) ≠ ⟨k, o', none⟩ := fun _ _ h => hk (congrArg Addr.block h)
  unfold Box
  rw [World.cell?_setCell_other _ _ _ _ (e 1 0), World.cell?_setCell_other _ _ _ _ (e 0 0), World.cell?_setCell_other _ _ _ _ (e 1 1), World.cell?_setCell_other _ _ _ _ (e 0 1)]
  exact h
/-- The block k may be written. -/
def Free (w : World) (k : Nat) : Prop := w.frozen? ⟨k, 0, none⟩ = false ∧ w.frozen? ⟨k, 1, none⟩ = false ∧ k < w.heap.size
theorem Free.new (w : World) (c : Array Value) : Free (w.alloc (.cells c 221)) w.heap.size := ⟨by simp [go_sem], by simp [go_sem], by simp⟩
theorem Free.keeps {w w1 : World} {k : Nat} (h : Free w k) (hb : Go.RowKit.Below w.heap.size w w1) : Free w1 k :=
  ⟨by rw [hb.frozen (p := ⟨k, 0, none⟩) h.2.2]; exact h.1, by rw [hb.frozen (p := ⟨k, 1, none⟩) h.2.2]; exact h.2.1, Nat.lt_of_lt_of_le h.2.2 hb.size⟩
theorem Free.past {w : World} {k : Nat} (h : Free w k) (c : Array Value) (t : TypeId) : Free (w.alloc (.cells c t)) k :=
  h.keeps ((Go.RowKit.Below.refl _ _).alloc (Nat.le_refl _) _)

/-- The block k holds a zero Wide that may be written. -/
def Fresh (w : World) (k : Nat) : Prop := w.cell? ⟨k, 0, none⟩ = some (.int .i64 0) ∧ w.cell? ⟨k, 1, none⟩ = some (.int .u64 0) ∧ Free w k
theorem Fresh.new (w : World) : Fresh (w.alloc (.cells #[.int .i64 0, .int .u64 0] 221)) w.heap.size := ⟨by simp [go_sem], by simp [go_sem], Free.new w _⟩
theorem Fresh.keeps {w w1 : World} {k : Nat} (h : Fresh w k) (hb : Go.RowKit.Below w.heap.size w w1) : Fresh w1 k := ⟨Go.Proofs.YtbahfelnbofjjaaGreatDoor.dec.keeps hb h.1, Go.Proofs.YtbahfelnbofjjaaGreatDoor.dec.keeps hb h.2.1, h.2.2.keeps hb⟩
theorem Fresh.put {w : World} {k : Nat} (h : Fresh w k) (b : Int) : Box ((w.setCell ⟨k, 0, none⟩ (.int .i64 (hi b))).setCell ⟨k, 1, none⟩ (.int .u64 (lo b))) k b := read2 h.1 h.2.1 _ _
/-- A parameter in memory, and nothing old changed. -/
def StA (w w' : World) (k : Nat) (a : Int) : Prop := Box w' k a ∧ Go.RowKit.Below w.heap.size w w'
theorem StA.out {w w' : World} {k : Nat} {a : Int} (h : StA w w' k a) : w'.cell? ⟨k, 0, none⟩ = some (.int .i64 (hi a)) ∧ w'.cell? ⟨k, 1, none⟩ = some (.int .u64 (lo a)) ∧ Go.RowKit.Below w.heap.size w w' := ⟨h.1.1, h.1.2, h.2⟩
theorem StA.next {w w1 w2 : World} {k : Nat} {a : Int} (h : StA w w1 k a) (hb : Go.RowKit.Below w1.heap.size w1 w2) : StA w w2 k a := ⟨h.1.keeps hb, bnext h.2 hb⟩
theorem StA.alloc {w w1 : World} {k : Nat} {a : Int} (h : StA w w1 k a) (o : Obj) : StA w (w1.alloc o) k a := ⟨h.1.past o, balloc h.2 o⟩
theorem StA.put {w w4 w5 : World} {k : Nat} {a : Int} (h4 : StA w w4 k a) (h : StA w w5 k a) (u v : Value) : StA w ((w5.setCell ⟨w4.heap.size, 0, none⟩ u).setCell ⟨w4.heap.size, 1, none⟩ v) k a :=
  ⟨h.1.off (by have := h4.1.lt; omega) u v, store2 h.2 h4.2.size u v⟩

end Go.Proofs.YtbahfelnbofjjaaGreatDoor.dec

namespace Go.Proofs.YtbahfelnbofjjaaGreatDoor.dec
open Go.RowKit Go.Shelf

theorem checked_any {a : Int} (ia : In a) (w : World) :
    Calls Tryz.prog 202 #[.agg #[.int .i64 (hi a), .int .u64 (lo a)]] w fun e w' => e = .returned (.tuple #[.int .i64 (kx a), .bool (rg a)]) ∧ Below w.heap.size w w' := by
  have CD := Lib.hid (divide_at (a := a) (d := 1) ia (by decide) (by decide) (dv_one a) (dvOk_one a))
  go_enter Tryz.func202, Tryz.ntmps202
  go_wp2_with (go_at_call 243; refine (CD.out _).mono ?_; rintro e w1 ⟨rfl, hb⟩)
  go_ret2
  exact ⟨rfl, bnext (balloc (b0 w) _) hb⟩

end Go.Proofs.YtbahfelnbofjjaaGreatDoor.dec

namespace Go.Proofs.YtbahfelnbofjjaaGreatDoor.dec
open Go.RowKit Go.Shelf

theorem refInRange_any (x : Int) (w : World) : Calls Tryz.prog 275 #[.int .i64 x] w fun e w' => e = .returned (.bool (rg x)) ∧ w = w' := by
  by_cases h1 : -1152921504606846976 ≤ x
  · by_cases h2 : x ≤ 1152921504606846976
    · have e : Hid (rg x = true) := (rg_iff x).2 ⟨h1, h2⟩
      have c1 : decide (-1152921504606846976 ≤ x) = true := by simpa using h1
      have c2 : decide (x ≤ 1152921504606846976) = true := by simpa using h2
      go_enter Tryz.func275, Tryz.ntmps275
      go_wp2
      go_ret
      exact ⟨by rw [e.out]; rfl, rfl⟩
    · have e : Hid (rg x = false) := (rg_no x).2 (by omega)
      have c1 : decide (-1152921504606846976 ≤ x) = true := by simpa using h1
      have c2 : decide (x ≤ 1152921504606846976) = false := by simp; omega
      go_enter Tryz.func275, Tryz.ntmps275
      go_wp2
      go_ret
      exact ⟨by rw [e.out]; rfl, rfl⟩
  · have e : Hid (rg x = false) := (rg_no x).2 (by omega)
    have c1 : decide (-1152921504606846976 ≤ x) = false := by simp; omega
    go_enter Tryz.func275, Tryz.ntmps275
    go_wp2
    go_ret
    exact ⟨by rw [e.out]; rfl, rfl⟩

end Go.Proofs.YtbahfelnbofjjaaGreatDoor.dec

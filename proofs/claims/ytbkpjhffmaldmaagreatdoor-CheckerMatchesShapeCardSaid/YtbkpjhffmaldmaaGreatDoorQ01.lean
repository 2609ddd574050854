/-
  Sums and products of decimals, values as plain data.
-/
import Derived.WalkKit
import Derived.Deep.RegionHeld3
import Derived.WalkLawsBesides
import Derived.OpenShut
import Derived.Outline
import Derived.Laws.Externs
import Derived.StillTailTactics
import Derived.Laws.Pointers
import Derived.Deep.QuietTactic
import Derived.BigQuiet
import Derived.RowKit3
import Derived.Shelf.Bits.Mul64
import Derived.Lib.Hide
import Derived.Laws.Bits64b
import Derived.Lib.ItoaNum
import Derived.Lib.BitFns
import Derived.Deep.CutBlock
import Derived.Deep.DeepCutAuto
import Derived.Deep.LoopGhost
import Derived.Shelf.Small.Bits
import Derived.Shelf.Strconv.Itoa0
import Derived.Lib.SmallJoins
import Derived.Lib.QuietBelow
import Derived.WalkSmall
import Derived.Lib.LaidTab
import Derived.WalkMore
import Derived.Lib.ItoaMem
import Derived.BigCall
import Derived.BigGuard
import Derived.Laws.Concat
import Derived.Lib.AtoiAllCases
import Derived.Lib.Strings
import Derived.Lib.Bytealg
import Derived.Lib.Small
import Derived.Test.YtbkpjhffmaldmaaGreatDoorChecked
import Derived.Test.YtbkpjhffmaldmaaGreatDoorProg
import Derived.Test.YtbkpjhffmaldmaaGreatDoorShelf
namespace Go.Proofs.YtbkpjhffmaldmaaGreatDoor
open Go.RowKit

section
variable {P : Program} {Q : Exit → Act → World → Prop} {md : Region.Mode} {S : World → Prop}

/-- The operation i yields v in every world of S: it is taken first. -/
theorem held_take {l : List Oper} {i d : Nat} {oi : Oper} {v : Value} {fuel : Nat} {listed : Array Bool} {t : List Value} {ds : List Deferred} {w : World} (hi : l[i]? = some oi)
    (hs : Region.noSelect l.toArray = true) (hf : Region.free md l.toArray listed i = true) (hr : (Region.ready md l.toArray listed).contains i = true) (hd : oi.dst = some d)
    (hQ : ∀ c a w, Q (.panic c) (a.put (some d) v) w → Q (.panic c) a w) (hw : Region.wanted oi (yielded l.toArray t.toArray) = true) (hS : S w)
    (hy : ∀ w, S w → (execOp (Act.mk t.toArray ds).eval oi).run P w = .ok (.value v) w)
    (h : wpAnyH P md l.toArray Q S fuel (listed.setIfInBounds i true) ⟨(t.set d v).toArray, ds⟩ w) : wpAnyH P md l.toArray Q S (fuel + 1) listed ⟨t.toArray, ds⟩ w := by
  refine wpAnyH_take (i := i) (oi := oi) (v := v) (by simpa using hi) hs hf hr (by rw [hd]; exact hQ) (.inl ⟨hw, hy⟩) hS ?_
  rw [hd]
  simpa [Act.put] using h
/-- The operation i is the only one that may come up. -/
theorem held_only {l : List Oper} {i : Nat} {oi : Oper} {fuel : Nat} {listed : Array Bool} {a : Act} {w : World} (hi : l[i]? = some oi)
    (hr : Region.ready md l.toArray listed = [i]) (hw : Region.wanted oi (yielded l.toArray a.tmps) = true)
    (h : ∀ K' : Act → World → Prop, Shut (∀ a w, S w → (S w → wpAnyH P md l.toArray Q S fuel (listed.setIfInBounds i true) a w) → K' a w) → Oper.wp P oi a w K' Q) : wpAnyH P md l.toArray Q S (fuel + 1) listed a w := by
  refine wpAnyH_ready hr (by simp) (AllReadyH.cons (o := oi) (by simpa using hi) (fun K hK => ?_) AllReadyH.nil)
  rw [if_pos hw]
  exact h K hK
/-- Two operations may come up. -/
theorem held_two {l : List Oper} {i j : Nat} {oi oj : Oper} {fuel : Nat} {listed : Array Bool} {a : Act} {w : World} (hi : l[i]? = some oi) (hj : l[j]? = some oj)
    (hr : Region.ready md l.toArray listed = [i, j]) (hw : Region.wanted oi (yielded l.toArray a.tmps) = true) (hw' : Region.wanted oj (yielded l.toArray a.tmps) = true)
    (h : ∀ K' : Act → World → Prop, Shut (∀ a w, S w → (S w → wpAnyH P md l.toArray Q S fuel (listed.setIfInBounds i true) a w) → K' a w) → Oper.wp P oi a w K' Q)
    (h' : ∀ K' : Act → World → Prop, Shut (∀ a w, S w → (S w → wpAnyH P md l.toArray Q S fuel (listed.setIfInBounds j true) a w) → K' a w) → Oper.wp P oj a w K' Q) : wpAnyH P md l.toArray Q S (fuel + 1) listed a w := by
  refine wpAnyH_ready hr (by simp) (AllReadyH.cons (o := oi) (by simpa using hi) (fun K hK => ?_) (AllReadyH.cons (o := oj) (by simpa using hj) (fun K hK => ?_) AllReadyH.nil))
  · rw [if_pos hw]
    exact h K hK
  · rw [if_pos hw']
    exact h' K hK
theorem noPanic_of {Q : Exit → Act → World → Prop} {a : Act} {w : World} (h : Q .normal a w) : NoPanic Q .normal a w := h
end
theorem held_more {P : Program} {Q : Exit → Act → World → Prop} {md : Region.Mode} {ops : Array Oper} {S S' : World → Prop} (hS : ∀ w, S' w → S w) : ∀ (fuel : Nat) (listed : Array Bool) (a : Act) (w : World), wpAnyH P md ops Q S' fuel listed a w → wpAnyH P md ops Q S fuel listed a w
  | 0, _, _, _, h => h
  | fuel + 1, _, _, _, h => ⟨h.1, fun i hi => wpOp_mono (fun a' w' h' => ⟨hS w' h'.1, held_more hS fuel _ a' w' h'.2⟩) (h.2 i hi)⟩
/-- From here on a stronger condition. -/
theorem held_and {P : Program} {Q : Exit → Act → World → Prop} {md : Region.Mode} {ops : Array Oper} {S : World → Prop} {fuel : Nat} {listed : Array Bool} {a : Act} {w : World} (T : World → Prop) (hT : T w) (hS : S w)
    (h : (S w ∧ T w) → wpAnyH P md ops Q (fun w' => S w' ∧ T w') fuel listed a w) : wpAnyH P md ops Q S fuel listed a w := held_more (fun _ h => h.1) _ _ _ _ (h ⟨hS, hT⟩)
end Go.Proofs.YtbkpjhffmaldmaaGreatDoor
namespace Go.Proofs.YtbkpjhffmaldmaaGreatDoor.dec
open Go.RowKit

/-- The lower half of n modulo 2^128. -/
def lo (n : Int) : Int := n % 18446744073709551616
/-- The upper half of n modulo 2^128, signed. -/
def hi (n : Int) : Int := (n / 18446744073709551616 + 9223372036854775808) % 18446744073709551616 - 9223372036854775808
/-- The pair that stands for n. -/
def W (n : Int) : Value := .agg #[.int .i64 (hi n), .int .u64 (lo n)]

theorem lo_range (n : Int) : 0 ≤ lo n ∧ lo n ≤ 18446744073709551615 := by unfold lo; omega
theorem hi_range (n : Int) : -9223372036854775808 ≤ hi n ∧ hi n ≤ 9223372036854775807 := by unfold hi; omega
theorem wf_hi (n : Int) : (Lit.int .i64 (hi n)).wf = true := by have := hi_range n; exact WalkArith.wf_i64 (by omega)
theorem W_of (h l : Int) (h1 : -9223372036854775808 ≤ h) (h2 : h ≤ 9223372036854775807) (l1 : 0 ≤ l) (l2 : l ≤ 18446744073709551615) :
    Value.agg #[.int .i64 h, .int .u64 l] = W (h * 18446744073709551616 + l) := by
  have e1 : hi (h * 18446744073709551616 + l) = h := by unfold hi; omega
  have e2 : lo (h * 18446744073709551616 + l) = l := by unfold lo; omega
  unfold W; rw [e1, e2]
theorem W_congr {a b : Int} (h : a % 340282366920938463463374607431768211456 = b % 340282366920938463463374607431768211456) : W a = W b := by
  have e1 : hi a = hi b := by unfold hi; omega
  have e2 : lo a = lo b := by unfold lo; omega
  unfold W; rw [e1, e2]
theorem W_inj {a b : Int} (h1 : hi a = hi b) (h2 : lo a = lo b) : a % 340282366920938463463374607431768211456 = b % 340282366920938463463374607431768211456 := by
  unfold hi at h1; unfold lo at h2; omega
theorem W_zero : Value.agg #[.int .i64 0, .int .u64 0] = W 0 := by
  have e1 : hi 0 = 0 := by decide
  have e2 : lo 0 = 0 := by decide
  unfold W; rw [e1, e2]
theorem add_hi (a b : Int) : wrap64 (wrap64 (hi a + hi b) + (lo a + lo b) / 18446744073709551616) = hi (a + b) := by unfold hi lo wrap64; omega
theorem add_lo (a b : Int) : (lo a + lo b) % 18446744073709551616 = lo (a + b) := by unfold lo; omega
/-- The borrow of x - y. -/
def bor (x y : Int) : Int := if x < y then 1 else 0
theorem bor_range (x y : Int) : 0 ≤ bor x y ∧ bor x y ≤ 1 := by unfold bor; split <;> decide
theorem sub_hi (a b : Int) : wrap64 (wrap64 (hi a - hi b) - bor (lo a) (lo b)) = hi (a - b) := by unfold hi lo wrap64 bor; split <;> omega
theorem sub_lo (a b : Int) : (lo a - lo b) % 18446744073709551616 = lo (a - b) := by unfold lo; omega
theorem of_hi (n : Int) (h1 : -9223372036854775808 ≤ n) (h2 : n ≤ 9223372036854775807) : n / 9223372036854775808 = hi n := by unfold hi; omega
theorem of_lo (n : Int) : IntKind.u64.wrap n = lo n := by rw [IntKind.wrap_u64]; unfold lo; rfl
theorem u64_ex (x : Int) : ∃ k, IntKind.u64.wrap x = x + 18446744073709551616 * k := ⟨-(x / 18446744073709551616), by rw [IntKind.wrap_u64]; omega⟩
theorem mul_parts (a n : Int) : ∃ p1 p2 p3 : Int, p1 = (a / 18446744073709551616) * (n / 18446744073709551616) ∧ p2 = (a / 18446744073709551616) * lo n ∧ p3 = lo a * (n / 18446744073709551616) ∧
    a * n = 18446744073709551616 * (18446744073709551616 * p1 + p2 + p3) + lo a * lo n := by
  refine ⟨_, _, _, rfl, rfl, rfl, ?_⟩
  have ea : a = 18446744073709551616 * (a / 18446744073709551616) + lo a := by unfold lo; omega
  have en : n = 18446744073709551616 * (n / 18446744073709551616) + lo n := by unfold lo; omega
  generalize a / 18446744073709551616 = A at *
  generalize n / 18446744073709551616 = S at *
  generalize lo a = la at *
  generalize lo n = ln at *
  subst ea en
  rw [Int.add_mul, Int.mul_add, Int.mul_add, Int.mul_add, Int.mul_add, Int.mul_assoc, Int.mul_assoc, Int.mul_left_comm A, Int.mul_left_comm la]
  omega
theorem scale_lo (a n : Int) : lo a * lo n % 18446744073709551616 = lo (a * n) := by
  obtain ⟨p1, p2, p3, _, _, _, e⟩ := mul_parts a n
  rw [e]; unfold lo; omega
theorem scale_hi (a n : Int) (h1 : -9223372036854775808 ≤ n) (h2 : n ≤ 9223372036854775807) :
    wrap64 (IntKind.u64.wrap (lo a * lo n / 18446744073709551616 + IntKind.u64.wrap (IntKind.u64.wrap (IntKind.u64.wrap (hi a) * lo n) + IntKind.u64.wrap (lo a * IntKind.u64.wrap (n / 9223372036854775808))))) = hi (a * n) := by
  obtain ⟨p1, p2, p3, e1, e2, e3, e⟩ := mul_parts a n
  have hs : n / 9223372036854775808 = n / 18446744073709551616 := by omega
  rw [hs]
  obtain ⟨k0, f0⟩ : ∃ k, hi a = a / 18446744073709551616 + 18446744073709551616 * k := ⟨-((a / 18446744073709551616 + 9223372036854775808) / 18446744073709551616), by unfold hi; omega⟩
  obtain ⟨k1, f1⟩ := u64_ex (hi a)
  obtain ⟨k2, f2⟩ := u64_ex (IntKind.u64.wrap (hi a) * lo n)
  obtain ⟨k3, f3⟩ := u64_ex (n / 18446744073709551616)
  obtain ⟨k4, f4⟩ := u64_ex (lo a * IntKind.u64.wrap (n / 18446744073709551616))
  obtain ⟨k5, f5⟩ := u64_ex (IntKind.u64.wrap (IntKind.u64.wrap (hi a) * lo n) + IntKind.u64.wrap (lo a * IntKind.u64.wrap (n / 18446744073709551616)))
  obtain ⟨k6, f6⟩ := u64_ex (lo a * lo n / 18446744073709551616 + IntKind.u64.wrap (IntKind.u64.wrap (IntKind.u64.wrap (hi a) * lo n) + IntKind.u64.wrap (lo a * IntKind.u64.wrap (n / 18446744073709551616))))
  rw [f6, f5, f2, f4, f1, f3, f0, e]
  rw [Int.add_mul, Int.add_mul, Int.mul_add, Int.mul_assoc, Int.mul_assoc, Int.mul_left_comm (lo a), ← e2, ← e3]
  generalize lo a * lo n = m
  generalize k0 * lo n = m0
  generalize k1 * lo n = m1
  generalize lo a * k3 = m3
  unfold hi wrap64
  omega
/-- n is a signed integer of 128 bits. -/
def In (n : Int) : Prop := -170141183460469231731687303715884105728 ≤ n ∧ n < 170141183460469231731687303715884105728
/-- What exact.Compare answers. -/
def cmp (a b : Int) : Int := if a < b then -1 else if a = b then 0 else 1
theorem cmp_lt {a b : Int} (h : a < b) : cmp a b = -1 := by unfold cmp; rw [if_pos h]
theorem cmp_eq {a b : Int} (h : a = b) : cmp a b = 0 := by unfold cmp; rw [if_neg (by omega), if_pos h]
theorem cmp_gt {a b : Int} (h : b < a) : cmp a b = 1 := by unfold cmp; rw [if_neg (by omega), if_neg (by omega)]
theorem five (a b : Int) : hi a < hi b ∨ (hi a = hi b ∧ lo a < lo b) ∨ (hi a = hi b ∧ lo a = lo b) ∨ (hi a = hi b ∧ lo b < lo a) ∨ hi b < hi a := by omega
theorem lt_of {a b : Int} (ha : In a) (hb : In b) (h : hi a < hi b ∨ (hi a = hi b ∧ lo a < lo b)) : a < b := by unfold In at ha hb; unfold hi lo at h; omega
theorem eq_of {a b : Int} (ha : In a) (hb : In b) (h1 : hi a = hi b) (h2 : lo a = lo b) : a = b := by unfold In at ha hb; unfold hi at h1; unfold lo at h2; omega
/-- The absolute value. -/
def ab (a : Int) : Int := if a < 0 then -a else a
theorem ab_neg {a : Int} (h : a < 0) : ab a = -a := by unfold ab; rw [if_pos h]
theorem ab_pos {a : Int} (h : 0 ≤ a) : ab a = a := by unfold ab; rw [if_neg (by omega)]
theorem hi_neg {a : Int} (ha : In a) : hi a < 0 ↔ a < 0 := by unfold In at ha; unfold hi; omega
theorem ab_hi {a : Int} (ha : In a) : IntKind.u64.wrap (hi (ab a)) = ab a / 18446744073709551616 := by
  unfold In at ha; rw [IntKind.wrap_u64]; unfold hi ab; split <;> omega
/-- What half-to-even rounding adds to a quotient q with the rest r by d. -/
def ru (q r d : Int) : Int := if d - r < r ∨ (r = d - r ∧ q % 2 = 1) then 1 else 0
/-- The absolute value of the rounded quotient. -/
def quo (a d : Int) : Int := ab a / ab d + ru (ab a / ab d) (ab a % ab d) (ab d)
/-- Whether exact.Divide has a result. -/
def dvOk (a d : Int) : Bool := decide (d ≠ 0 ∧ quo a d ≤ 1152921504606846976)
/-- The rounded quotient with its sign. -/
def sq (a d : Int) : Int := if (a < 0 ∧ 0 ≤ d) ∨ (0 ≤ a ∧ d < 0) then -quo a d else quo a d
/-- What exact.Divide answers. -/
def dv (a d : Int) : Int := if dvOk a d then sq a d else 0
theorem ru_range (q r d : Int) : 0 ≤ ru q r d ∧ ru q r d ≤ 1 := by unfold ru; split <;> decide
theorem ab_nonneg (a : Int) : 0 ≤ ab a := by unfold ab; split <;> omega
theorem dv_no {a d : Int} (h : dvOk a d = false) : dv a d = 0 := by unfold dv; rw [h]; rfl
theorem dv_yes {a d : Int} (h : dvOk a d = true) : dv a d = sq a d := by unfold dv; rw [h]; rfl

/-- All that the four ways through exact.Divide ask. -/
structure Dv (a d A D ah al q r x : Int) : Prop where
  A0 : ab a = A
  D0 : ab d = D
  eah : A / 18446744073709551616 = ah
  eal : A % 18446744073709551616 = al
  eq : q = A / D
  er : r = A % D
  ex : x = ru q r D
theorem dvOk_of {a d A D ah al q r x : Int} (h : Dv a d A D ah al q r x) : dvOk a d = decide (D ≠ 0 ∧ q + x ≤ 1152921504606846976) := by
  obtain ⟨rfl, rfl, rfl, rfl, rfl, rfl, rfl⟩ := h
  unfold dvOk quo
  have : (d ≠ 0) ↔ (ab d ≠ 0) := by unfold ab; split <;> omega
  simp only [this]
theorem Dv.none1 {a d A D ah al q r x : Int} (h : Dv a d A D ah al q r x) (g : D ≤ ah) : dvOk a d = false := by
  rw [dvOk_of h]
  have hx := ru_range q r D
  rw [← h.ex] at hx
  have hA := ab_nonneg a
  have hD := ab_nonneg d
  rw [h.A0] at hA
  rw [h.D0] at hD
  simp only [decide_eq_false_iff_not]
  rintro ⟨h1, h2⟩
  have e : 18446744073709551616 ≤ q := by
    rw [h.eq, Int.le_ediv_iff_mul_le (by omega)]; have := h.eah; omega
  omega
theorem Dv.none2 {a d A D ah al q r x : Int} (h : Dv a d A D ah al q r x) (g : 1152921504606846976 < q + x) : dvOk a d = false := by
  rw [dvOk_of h]
  simp only [decide_eq_false_iff_not]
  omega
theorem Dv.none3 {a d A D ah al q r x : Int} (h : Dv a d A D ah al q r x) (g : 1152921504606846976 < q) : dvOk a d = false := by
  have hx := ru_range q r D
  rw [← h.ex] at hx
  exact h.none2 (by omega)
theorem Dv.some {a d A D ah al q r x : Int} (h : Dv a d A D ah al q r x) (g : ah < D) (g' : q + x ≤ 1152921504606846976) : dvOk a d = true := by
  rw [dvOk_of h]
  have hA := ab_nonneg a
  rw [h.A0] at hA
  have := h.eah
  simp only [decide_eq_true_eq]
  omega
theorem Dv.sq {a d A D ah al q r x : Int} (h : Dv a d A D ah al q r x) : sq a d = if (a < 0 ∧ 0 ≤ d) ∨ (0 ≤ a ∧ d < 0) then -(q + x) else q + x := by
  obtain ⟨rfl, rfl, rfl, rfl, rfl, rfl, rfl⟩ := h
  rfl
end Go.Proofs.YtbkpjhffmaldmaaGreatDoor.dec

namespace Go.Proofs.YtbkpjhffmaldmaaGreatDoor.dec
open Go.RowKit Go.Shelf

def subEntry : Array Value → Sem Value := fun args => do
  let (x, y, b) ← Extern.MathBitsCarry.three "Sub64" args
  pure (Extern.MathBitsCarry.pair ((x + Extern.MathBitsCarry.m64 - y - b) % Extern.MathBitsCarry.m64) (if x < y + b then 1 else 0))

theorem sub64 (x y : Int) (hx : 0 ≤ x) (hy : 0 ≤ y) (hy' : y ≤ 18446744073709551615) (w : World) : (callFunc 195 #[.int .u64 x, .int .u64 y, .int .u64 0]).run Tryz.prog w =
    .ok (.value (.tuple #[.int .u64 ((x - y) % 18446744073709551616), .int .u64 (bor x y)])) w := by
  obtain ⟨x, rfl⟩ := Int.eq_ofNat_of_zero_le hx
  obtain ⟨y, rfl⟩ := Int.eq_ofNat_of_zero_le hy
  have e1 : (((x + 18446744073709551616 - y - 0) % 18446744073709551616 : Nat) : Int) = ((x : Int) - y) % 18446744073709551616 := by omega
  have e2 : ((if x < y + 0 then 1 else 0 : Nat) : Int) = bor x y := by unfold bor; split <;> split <;> omega
  rw [← e1, ← e2]
  rw [run_callFunc_extern Tryz.func195 (by kernel_rfl) (by kernel_rfl) (by kernel_rfl) (e := subEntry) (by kernel_rfl)]
  rfl

/-- exact.Sub. -/
theorem sub_any {x y : Value} {a b : Int} (hx : x = W a) (hy : y = W b) (w : World) :
    Calls Tryz.prog 179 #[x, y] w fun e w' => e = .returned (W (a - b)) ∧ ∃ c1 c2 c3 : Array Value, w' = ((w.alloc (.cells c1 138)).alloc (.cells c2 138)).alloc (.cells c3 138) := by
  subst hx hy
  have ra := lo_range a; have rb := lo_range b; have ha := hi_range a; have hb := hi_range b
  obtain ⟨k0, k1⟩ := bor_range (lo a) (lo b)
  obtain ⟨ra1, ra2⟩ := ra; obtain ⟨rb1, rb2⟩ := rb; obtain ⟨ha1, ha2⟩ := ha; obtain ⟨hb1, hb2⟩ := hb
  unfold W
  go_enter Tryz.func179, Tryz.ntmps179
  go_wp2_with (simp only [sub64 (lo a) (lo b) ra1 rb1 rb2])
  simp [bodyPost, results, Tryz.results179, go_sem]
  exact ⟨⟨sub_hi a b, sub_lo a b⟩, _, _, _, rfl⟩

/-- exact.Neg. -/
theorem neg_any {x : Value} {a : Int} (hx : x = W a) (w : World) :
    Calls Tryz.prog 165 #[x] w fun e w' => e = .returned (W (-a)) ∧ ∃ c1 c2 c3 c4 c5 : Array Value, w' = ((((w.alloc (.cells c1 138)).alloc (.cells c2 138)).alloc (.cells c3 138)).alloc (.cells c4 138)).alloc (.cells c5 138) := by
  subst hx
  unfold W
  go_enter Tryz.func165, Tryz.ntmps165
  go_wp2_with (go_at_call 179; refine (sub_any (a := 0) (b := a) W_zero rfl _).mono ?_; unfold W; rintro e w' ⟨rfl, c1, c2, c3, rfl⟩)
  simp [bodyPost, results, Tryz.results165, go_sem]
  exact ⟨_, _, _, _, _, rfl⟩

/-- exact.signBits. -/
theorem signBits_any (n : Int) (w : World) (_h1 : -9223372036854775808 ≤ n) (_h2 : n ≤ 9223372036854775807) :
    Calls Tryz.prog 145 #[.int .i64 n] w fun e w' => e = .returned (.int .i64 (n / 9223372036854775808)) ∧ w = w' := by
  go_enter Tryz.func145, Tryz.ntmps145
  go_wp2
  go_ret
  exact ⟨rfl, rfl⟩

/-- exact.Of. -/
theorem of_any (n : Int) (w : World) (h1 : -9223372036854775808 ≤ n) (h2 : n ≤ 9223372036854775807) :
    Calls Tryz.prog 120 #[.int .i64 n] w fun e w' => e = .returned (W n) ∧ ∃ c1 : Array Value, w' = w.alloc (.cells c1 138) := by
  go_enter Tryz.func120, Tryz.ntmps120
  go_wp2_with (go_at_call 145; refine (signBits_any _ _ h1 h2).mono ?_; rintro e w' ⟨rfl, rfl⟩)
  unfold W
  rw [of_hi n h1 h2, of_lo]
  simp [bodyPost, results, Tryz.results120, go_sem]
  exact ⟨_, rfl⟩

theorem Tryz.lays264 : Go.Proofs.Lays.n264 Tryz.prog ⟨fun | 264 => 204 | n => n, fun | 53 => 136 | 46 => 186 | n => n, fun | n => n⟩ := {
  mixed := by kernel_rfl
  f264 := Tryz.func204.trans (congrArg some (by kernel_rfl))
  t46 := Tryz.underlying186
  a46 := Tryz.isAgg186
  z46 := Tryz.sizeOf186
  v46 := Tryz.zeroValue186
  t53 := Tryz.underlying136
  a53 := Tryz.isAgg136
  z53 := Tryz.sizeOf136
  v53 := Tryz.zeroValue136 }
theorem mul64 (x y : Int) (w : World) (hx : 0 ≤ x) (hx' : x ≤ 18446744073709551615) (hy : 0 ≤ y) (hy' : y ≤ 18446744073709551615) :
    Calls Tryz.prog 204 #[.int .u64 x, .int .u64 y] w fun e w' => e = .returned (.tuple #[.int .u64 (x * y / 18446744073709551616), .int .u64 (x * y % 18446744073709551616)]) ∧ w = w' := by
  obtain ⟨x, rfl⟩ := Int.eq_ofNat_of_zero_le hx
  obtain ⟨y, rfl⟩ := Int.eq_ofNat_of_zero_le hy
  refine (Any.bits_Mul64 Tryz.lays264 x y (by omega) (by omega) w).mono ?_
  rintro e w' ⟨rfl, rfl⟩
  refine ⟨?_, rfl⟩
  rw [← Int.natCast_mul]
  rfl

/-- exact.product. -/
theorem product_any (x y : Int) (w : World) (hx : 0 ≤ x) (hx' : x ≤ 18446744073709551615) (hy : 0 ≤ y) (hy' : y ≤ 18446744073709551615) :
    Calls Tryz.prog 194 #[.int .u64 x, .int .u64 y] w fun e w' => e = .returned (.agg #[.int .u64 (x * y % 18446744073709551616), .int .u64 (x * y / 18446744073709551616)]) ∧ ∃ c1 : Array Value, w' = w.alloc (.cells c1 170) := by
  go_enter Tryz.func194, Tryz.ntmps194
  go_wp2_with (go_at_call 204; refine (mul64 _ _ _ hx hx' hy hy').mono ?_; rintro e w' ⟨rfl, rfl⟩)
  simp [bodyPost, results, Tryz.results194, go_sem]
  exact ⟨_, rfl⟩
end Go.Proofs.YtbkpjhffmaldmaaGreatDoor.dec

namespace Go.Proofs.YtbkpjhffmaldmaaGreatDoor.dec
open Go.RowKit Go.Shelf

/-- The region's law with the world after the draw spelled as the walk spells it. -/
theorem still_tail {P : Program} {id : Nat} {Q : Exit → Act → World → Prop} {a : Act} {w : World} {l : List Oper} (n : Nat) (hm : P.follows .mixedOrders = true) (hB : Region.lexTailB .any l.toArray n = true)
    (h : wpStill P l.toArray w.drew (fun a' => wpList P l.toArray Q (l.drop n) a' w.drew) (l.take n) a) : (Code.region id l.toArray true).wp P Q a w :=
  wp_region_still_tail n hm hB h

set_option maxRecDepth 100000 in
set_option maxHeartbeats 1000000 in
/-- exact.Scale. -/
theorem scale_any {x : Value} {a : Int} (n : Int) (hx : x = W a) (w : World) (h1 : -9223372036854775808 ≤ n) (h2 : n ≤ 9223372036854775807) :
    Calls Tryz.prog 177 #[x, .int .i64 n] w fun e w' => e = .returned (W (a * n)) ∧ Below w.heap.size w w' := by
  subst hx
  have eh := scale_hi a n h1 h2
  have el := scale_lo a n
  have HE := Lib.hid eh; have HL := Lib.hid el; clear eh el
  have ra := lo_range a; have ha := hi_range a
  obtain ⟨ra1, ra2⟩ := ra; obtain ⟨ha1, ha2⟩ := ha
  have hn : IntKind.u64.wrap n = lo n := of_lo n
  have rn := lo_range n
  obtain ⟨rn1, rn2⟩ := rn
  unfold W
  go_enter Tryz.func177, Tryz.ntmps177
  go_wp2_with (go_at_call 194; refine (product_any _ _ _ ra1 ra2 rn1 rn2).mono ?_; rintro e w' ⟨rfl, c1, rfl⟩)
  refine still_tail 17 (by kernel_rfl) (by kernel_rfl) ?_
  simp only [List.take_succ_cons, List.take_zero, List.drop_succ_cons, List.drop_zero]
  iterate 11 still_step
  still_call (signBits_any _ _ h1 h2).mono (by rintro e w' ⟨rfl, rfl⟩; exact ⟨rfl, rfl⟩)
  repeat still_step
  refine wpStill_nil ?_
  go_wp2
  rw [HE.out, HL.out]
  simp [bodyPost, results, Tryz.results177, go_sem]
  exact ((((Below.refl _ _).alloc (Nat.le_refl _) _).alloc (by simp) _).alloc (by simp; omega) _).alloc (by simp; omega) _ |>.drew

theorem bfacts {W w1 : World} (hb : Below W.heap.size W w1) : (∀ b o, b < W.heap.size → w1.cell? ⟨b, o, none⟩ = W.cell? ⟨b, o, none⟩) ∧ (∀ b o, b < W.heap.size → w1.frozen? ⟨b, o, none⟩ = W.frozen? ⟨b, o, none⟩) ∧ W.heap.size ≤ w1.heap.size :=
  ⟨fun _ _ h => hb.cell (p := ⟨_, _, none⟩) h, fun _ _ h => hb.frozen (p := ⟨_, _, none⟩) h, hb.size⟩

theorem store2 {B k : Nat} {W w1 : World} (h : Below B W w1) (hk : B ≤ k) (u v : Value) : Below B W ((w1.setCell ⟨k, 0, none⟩ u).setCell ⟨k, 1, none⟩ v) :=
  Below.setCell (p := ⟨k, 1, none⟩) (Below.setCell (p := ⟨k, 0, none⟩) h hk u) hk v

theorem keeps {W w1 : World} (hb : Below W.heap.size W w1) {k o : Nat} {v : Value} (h : W.cell? ⟨k, o, none⟩ = some v) : w1.cell? ⟨k, o, none⟩ = some v := by
  rw [hb.cell (block_lt_of_cell h)]; exact h
theorem read2 {w1 : World} {k : Nat} {a0 a1 : Value} (h0 : w1.cell? ⟨k, 0, none⟩ = some a0) (h1 : w1.cell? ⟨k, 1, none⟩ = some a1) (u v : Value) :
    ((w1.setCell ⟨k, 0, none⟩ u).setCell ⟨k, 1, none⟩ v).cell? ⟨k, 0, none⟩ = some u ∧ ((w1.setCell ⟨k, 0, none⟩ u).setCell ⟨k, 1, none⟩ v).cell? ⟨k, 1, none⟩ = some v := by
  constructor
  · rw [World.cell?_setCell_other _ _ _ _ (by simp)]; exact World.cell?_setCell_same _ _ _ h0
  · exact World.cell?_setCell_same _ _ _ (u := a1) (by rw [World.cell?_setCell_other _ _ _ _ (by simp)]; exact h1)

/-- exact.Mul. -/
theorem mul_any (a b : Int) (w : World) (h1 : -9223372036854775808 ≤ a) (h2 : a ≤ 9223372036854775807) (h3 : -9223372036854775808 ≤ b) (h4 : b ≤ 9223372036854775807) :
    Calls Tryz.prog 159 #[.int .i64 a, .int .i64 b] w fun e w' => e = .returned (W (a * b)) ∧ Below w.heap.size w w' := by
  go_enter Tryz.func159, Tryz.ntmps159
  go_wp2_with (first | (go_at_call 120; refine (of_any _ _ h1 h2).mono ?_; unfold W; rintro e w' ⟨rfl, c1, rfl⟩) | (go_at_call 177; refine (scale_any (a := a) b rfl _ h3 h4).mono ?_; unfold W; rintro e w1 ⟨rfl, hb⟩; obtain ⟨hc, hf, hs⟩ := bfacts hb))
  obtain ⟨r0, r1⟩ := read2 (w1 := w1) (k := w.heap.size) (keeps hb (by simp [go_sem]; rfl)) (keeps hb (by simp [go_sem]; rfl)) (.int .i64 (hi (a * b))) (.int .u64 (lo (a * b)))
  simp [bodyPost, results, Tryz.results159, go_sem, W, r0, r1]
  exact store2 ((((Below.refl _ _).alloc (Nat.le_refl _) _).alloc (by simp) _).trans (hb.mono (by simp; omega))) (Nat.le_refl _) _ _
end Go.Proofs.YtbkpjhffmaldmaaGreatDoor.dec

namespace Go.Proofs.YtbkpjhffmaldmaaGreatDoor.dec
open Go.RowKit Go.Shelf

/-- exact.size. -/
theorem size_any {x : Value} {a : Int} (hx : x = W a) (ia : In a) (w : World) :
    Calls Tryz.prog 146 #[x] w fun e w' => e = .returned (.agg #[.int .u64 (ab a % 18446744073709551616), .int .u64 (ab a / 18446744073709551616)]) ∧ Below w.heap.size w w' := by
  subst hx
  have e2 : Hid (IntKind.u64.wrap (hi (ab a)) = ab a / 18446744073709551616) := ab_hi ia
  have e1 : Hid (lo (ab a) = ab a % 18446744073709551616) := rfl
  by_cases h : a < 0
  · have hh : hi a < 0 := (hi_neg ia).2 h
    have e0 : ab a = -a := ab_neg h
    rw [e0] at e1 e2 ⊢
    clear e0
    unfold W
    go_enter Tryz.func146, Tryz.ntmps146
    go_wp2_with (go_at_call 165; refine (neg_any (a := a) rfl _).mono ?_; unfold W; rintro e w' ⟨rfl, c1, c2, c3, c4, c5, rfl⟩)
    rw [e1.out, e2.out]
    simp [bodyPost, results, Tryz.results146, go_sem]
    exact ((((((Below.refl _ _).alloc (Nat.le_refl _) _).alloc (by simp) _).alloc (by simp; omega) _).alloc (by simp; omega) _).alloc (by simp; omega) _).alloc (by simp; omega) _ |>.alloc (by simp; omega) _
  · have hh : 0 ≤ hi a := by have := hi_neg ia; omega
    have e0 : ab a = a := ab_pos (by omega)
    rw [e0] at e1 e2 ⊢
    clear e0
    unfold W
    go_enter Tryz.func146, Tryz.ntmps146
    go_wp2
    rw [e1.out, e2.out]
    simp [bodyPost, results, Tryz.results146, go_sem]
    exact ((Below.refl _ _).alloc (Nat.le_refl _) _).alloc (by simp) _

/-- exact.roundUp. -/
theorem roundUp_any (q r d : Int) (w : World) (hq : 0 ≤ q) (hr : 0 ≤ r) (hd : r < d) (hd' : d ≤ 18446744073709551615) :
    Calls Tryz.prog 148 #[.int .u64 q, .int .u64 r, .int .u64 d] w fun e w' => e = .returned (.int .u64 (ru q r d)) ∧ w = w' := by
  have h4 : (Hid (ru q r d = 1) ∧ d - r < r) ∨ (Hid (ru q r d = 1) ∧ ((r : Int) == d - r) = true ∧ (q % 2 == 1) = true ∧ ¬ d - r < r) ∨ (Hid (ru q r d = 0) ∧ ((r : Int) == d - r) = true ∧ (q % 2 == 1) = false ∧ ¬ d - r < r) ∨ (Hid (ru q r d = 0) ∧ ((r : Int) == d - r) = false ∧ ¬ d - r < r) := by
    unfold Hid ru
    simp only [beq_iff_eq, beq_eq_false_iff_ne]
    split <;> omega
  generalize ru q r d = c at *
  rcases h4 with ⟨H, h⟩ | ⟨H, h, h', h''⟩ | ⟨H, h, h', h''⟩ | ⟨H, h, h'⟩
  all_goals
    go_enter Tryz.func148, Tryz.ntmps148
    go_wp2
    go_ret
    exact ⟨by rw [H.out]; rfl, rfl⟩
end Go.Proofs.YtbkpjhffmaldmaaGreatDoor.dec

namespace Go.Proofs.YtbkpjhffmaldmaaGreatDoor.dec
open Go.RowKit

/-- The digit: how often y goes into u * 2^32 + v. -/
def dig (u v y : Int) : Int := (u * 4294967296 + v) / y

structure Kn (y y1 y0 u v : Int) : Prop where
  ey : y = y1 * 4294967296 + y0
  y1a : 2147483648 ≤ y1
  y1b : y1 ≤ 4294967295
  y0a : 0 ≤ y0
  y0b : y0 ≤ 4294967295
  u0 : 0 ≤ u
  u1 : u < y
  v0 : 0 ≤ v
  v1 : v ≤ 4294967295

section
variable {y y1 y0 u v q r : Int}
theorem Kn.pos (K : Kn y y1 y0 u v) : 0 < y := by have := K.ey; have := K.y1a; have := K.y0a; omega
theorem Kn.lt (K : Kn y y1 y0 u v) : dig u v y < 4294967296 := by
  unfold dig; rw [Int.ediv_lt_iff_lt_mul K.pos]; have := K.u1; have := K.v1; omega
theorem Kn.nonneg (K : Kn y y1 y0 u v) : 0 ≤ dig u v y := by
  unfold dig; rw [Int.le_ediv_iff_mul_le K.pos]; have := K.u0; have := K.v0; omega
theorem Kn.test (K : Kn y y1 y0 u v) (h : q * y1 + r = u) : q * y0 ≤ 4294967296 * r + v ↔ q ≤ dig u v y := by
  unfold dig
  rw [Int.le_ediv_iff_mul_le K.pos, K.ey, Int.mul_add, ← Int.mul_assoc]
  generalize q * y1 = m at *
  generalize q * y0 = p
  omega
theorem Kn.start (K : Kn y y1 y0 u v) : dig u v y ≤ u / y1 ∧ u / y1 ≤ 4294967297 := by
  have hy := K.ey; have a := K.y1a; have b := K.y1b; have c := K.y0a; have d := K.y0b; have e := K.u1; have f := K.v1
  constructor
  · rw [Int.le_ediv_iff_mul_le (by omega)]
    have h := Int.ediv_mul_le (u * 4294967296 + v) (b := y) (by have := K.pos; omega)
    have h0 := Int.mul_nonneg K.nonneg c
    change dig u v y * y ≤ _ at h
    rw [hy, Int.mul_add, ← Int.mul_assoc, ← hy] at h
    generalize dig u v y * y1 = m at *
    generalize dig u v y * y0 = p at *
    omega
  · have : u / y1 < 4294967298 := by rw [Int.ediv_lt_iff_lt_mul (by omega)]; omega
    omega
theorem Kn.out (K : Kn y y1 y0 u v) (h : q * y1 + r = u) (h1 : q ≤ 4294967296) (h2 : 4294967296 ≤ r) : q ≤ dig u v y := by
  rw [← K.test h]
  have a := K.y0a; have b := K.y0b; have c := K.v0
  have m := Int.mul_le_mul h1 b a (by omega)
  omega
theorem Kn.rest (K : Kn y y1 y0 u v) : 0 ≤ u * 4294967296 + v - dig u v y * y ∧ u * 4294967296 + v - dig u v y * y < y := by
  have e : u * 4294967296 + v - dig u v y * y = (u * 4294967296 + v) % y := by rw [Int.emod_def]; unfold dig; rw [Int.mul_comm y]
  rw [e]
  exact ⟨Int.emod_nonneg _ (by have := K.pos; omega), Int.emod_lt_of_pos _ K.pos⟩
end
/-- The rest: what the digit leaves. -/
def rst (u v y : Int) : Int := u * 4294967296 + v - dig u v y * y

/-- What a loop of the algorithm knows of its guess q and its rest r. -/
def Guess (y1 u Q q r : Int) : Prop := Q ≤ q ∧ q ≤ 4294967297 ∧ q * y1 + r = u

theorem step_eq {y1 u q r : Int} (h : q * y1 + r = u) : (q - 1) * y1 + (r + y1) = u := by rw [Int.sub_mul]; omega
theorem wrap_rst {u v y : Int} (h0 : 0 ≤ rst u v y) (h1 : rst u v y ≤ 18446744073709551615) :
    IntKind.u64.wrap (IntKind.u64.wrap (IntKind.u64.wrap (u * 4294967296) + v) - IntKind.u64.wrap (dig u v y * y)) = rst u v y := by
  unfold rst at *
  simp only [IntKind.wrap_u64]
  generalize dig u v y * y = m at *
  omega

/-- Two digits give the quotient and the rest. -/
theorem two_digits {N y s u l v1 v0 Y : Int} (_hs : 0 < s) (hN : N * s = u * 18446744073709551616 + l) (hY : Y = y * s) (hy : 0 < y) (hl : l = v1 * 4294967296 + v0) (a : 0 ≤ rst (rst u v1 Y) v0 Y) (b : rst (rst u v1 Y) v0 Y < Y) :
    dig u v1 Y * 4294967296 + dig (rst u v1 Y) v0 Y = N / y ∧ rst (rst u v1 Y) v0 Y / s = N % y := by
  have e1 : u * 4294967296 + v1 = dig u v1 Y * Y + rst u v1 Y := by unfold rst; omega
  have e2 : rst u v1 Y * 4294967296 + v0 = dig (rst u v1 Y) v0 Y * Y + rst (rst u v1 Y) v0 Y := by
    have : rst (rst u v1 Y) v0 Y = rst u v1 Y * 4294967296 + v0 - dig (rst u v1 Y) v0 Y * Y := rfl
    omega
  generalize dig u v1 Y = q1 at *
  generalize rst u v1 Y = r1 at *
  generalize dig r1 v0 Y = q0 at *
  generalize rst r1 v0 Y = R at *
  have e3 : N * s = (q1 * 4294967296 + q0) * Y + R := by
    rw [Int.add_mul, Int.mul_assoc, Int.mul_comm 4294967296 Y, ← Int.mul_assoc]
    generalize q1 * Y = m1 at *
    generalize q0 * Y = m0 at *
    omega
  rw [hY, ← Int.mul_assoc] at e3
  have e4 : R = (N - (q1 * 4294967296 + q0) * y) * s := by rw [Int.sub_mul]; omega
  generalize q1 * 4294967296 + q0 = q at *
  have hpos := _hs
  have f1 : R / s = N - q * y := by rw [e4]; exact Int.mul_ediv_cancel _ (by omega)
  have g1 : 0 ≤ N - q * y := by
    rcases Int.lt_or_le (N - q * y) 0 with h | h
    · have := Int.mul_neg_of_neg_of_pos h hpos; omega
    · exact h
  have g2 : N - q * y < y := by
    rw [e4, hY] at b
    exact Int.lt_of_mul_lt_mul_right b (by omega)
  have f2 : N / y = q := by
    have : N = (N - q * y) + q * y := by omega
    rw [this, Int.add_mul_ediv_right _ _ (by omega), Int.ediv_eq_zero_of_lt g1 g2]
    omega
  have f3 : N % y = N - q * y := by rw [Int.emod_def, f2, Int.mul_comm y]
  exact ⟨f2.symm, by rw [f1, f3]⟩

/-! The normalization: y is shifted until its highest bit is set. -/
theorem norm_nat (y : Nat) (h0 : 1 ≤ y) (h1 : y < 18446744073709551616) :
    ∃ s : Nat, s ≤ 63 ∧ 64 - (Lib.bitLen y : Int) = s ∧ 9223372036854775808 ≤ y * 2 ^ s ∧ y * 2 ^ s < 18446744073709551616 := by
  obtain ⟨a, b, c⟩ := Lib.bitLenAux_bounds 64 y (by omega) (by omega)
  have d := Lib.bitLen_le y 64 (by omega) (by omega)
  change 1 ≤ Lib.bitLen y at a
  change 2 ^ (Lib.bitLen y - 1) ≤ y at b
  change y < 2 ^ Lib.bitLen y at c
  generalize Lib.bitLen y = L at *
  refine ⟨64 - L, by omega, by omega, ?_, ?_⟩
  · have e : 2 ^ (L - 1) * 2 ^ (64 - L) = 9223372036854775808 := by
      rw [← Nat.pow_add, show L - 1 + (64 - L) = 63 from by omega]
    rw [← e]
    exact Nat.mul_le_mul_right _ b
  · have e : 2 ^ L * 2 ^ (64 - L) = 18446744073709551616 := by
      rw [← Nat.pow_add, show L + (64 - L) = 64 from by omega]
    rw [← e]
    exact Nat.mul_lt_mul_of_pos_right c (Nat.two_pow_pos _)
theorem shift_nat (hi lo s : Nat) (hs : s ≤ 63) :
    (hi * 18446744073709551616 + lo) * 2 ^ s = (hi * 2 ^ s + lo / 2 ^ (64 - s)) * 18446744073709551616 + lo * 2 ^ s % 18446744073709551616 := by
  have e : 2 ^ (64 - s) * 2 ^ s = 18446744073709551616 := by
    rw [← Nat.pow_add, show 64 - s + s = 64 from by omega]
  have d : lo * 2 ^ s / 18446744073709551616 = lo / 2 ^ (64 - s) := by
    rw [← e]; exact Nat.mul_div_mul_right _ _ (Nat.two_pow_pos _)
  rw [← d, Nat.add_mul, Nat.mul_right_comm]
  generalize hi * 2 ^ s = m
  generalize lo * 2 ^ s = k
  omega
theorem or_nat (hi lo s : Nat) (hs : s ≤ 63) (hlo : lo < 18446744073709551616) : hi * 2 ^ s ||| lo / 2 ^ (64 - s) = hi * 2 ^ s + lo / 2 ^ (64 - s) := by
  have e : 2 ^ (64 - s) * 2 ^ s = 18446744073709551616 := by
    rw [← Nat.pow_add, show 64 - s + s = 64 from by omega]
  have h : lo / 2 ^ (64 - s) < 2 ^ s := Nat.div_lt_of_lt_mul (by rw [e]; exact hlo)
  rw [Nat.mul_comm hi]
  exact (Nat.two_pow_add_eq_or_of_lt h hi).symm
theorem and_low (a : Int) (h0 : 0 ≤ a) (h1 : a ≤ 18446744073709551615) : bits .and .u64 a 4294967295 = a % 4294967296 := by
  obtain ⟨n, rfl⟩ := Int.eq_ofNat_of_zero_le h0
  have h := bits_and_u64_nat n 4294967295 (by omega) (by omega)
  have e : n &&& 4294967295 = n % 4294967296 := Nat.and_two_pow_sub_one_eq_mod n 32
  rw [e] at h
  exact h

/-- All that the division asks of the shift s, in the spelling of the program's steps. -/
structure Norm (hi lo y s Y u l : Int) : Prop where
  s0 : 0 ≤ s
  s1 : s ≤ 63
  len : 64 - (Lib.bitLen y.toNat : Int) = s
  wY : IntKind.u64.wrap (y * 2 ^ s.toNat) = Y
  Y0 : 9223372036854775808 ≤ Y
  Y1 : Y ≤ 18446744073709551615
  wu : bits BinOp.or IntKind.u64 (IntKind.u64.wrap (hi * 2 ^ s.toNat)) (lo / 2 ^ (64 - s).toNat) = u
  u0 : 0 ≤ u
  u1 : u < Y
  wl : IntKind.u64.wrap (lo * 2 ^ s.toNat) = l
  l0 : 0 ≤ l
  l1 : l ≤ 18446744073709551615
  pos : (0 : Int) < 2 ^ s.toNat
  eY : Y = y * 2 ^ s.toNat
  eN : (hi * 18446744073709551616 + lo) * 2 ^ s.toNat = u * 18446744073709551616 + l

theorem norm_any (hi lo y : Int) (h1 : 0 ≤ hi) (h2 : hi < y) (h3 : y ≤ 18446744073709551615) (h4 : 0 ≤ lo) (h5 : lo ≤ 18446744073709551615) :
    ∃ s Y u l, Norm hi lo y s Y u l := by
  obtain ⟨hi, rfl⟩ := Int.eq_ofNat_of_zero_le h1
  obtain ⟨lo, rfl⟩ := Int.eq_ofNat_of_zero_le h4
  obtain ⟨y, rfl⟩ := Int.eq_ofNat_of_zero_le (show 0 ≤ y from by omega)
  obtain ⟨s, hs, hl, ha, hb⟩ := norm_nat y (by omega) (by omega)
  have hsh := shift_nat hi lo s hs
  have hor := or_nat hi lo s hs (by omega)
  have hlt : hi * 2 ^ s + 2 ^ s ≤ y * 2 ^ s := by
    have := Nat.mul_le_mul_right (2 ^ s) (show hi + 1 ≤ y from by omega)
    rw [Nat.add_mul] at this; omega
  have hd : lo / 2 ^ (64 - s) < 2 ^ s := Nat.div_lt_of_lt_mul (by
    rw [← Nat.pow_add, show 64 - s + s = 64 from by omega]; omega)
  have hp : 0 < 2 ^ s := Nat.two_pow_pos _
  have c2 : ((2 ^ s : Nat) : Int) = (2 : Int) ^ s := by simp
  have c3 : ((2 ^ (64 - s) : Nat) : Int) = (2 : Int) ^ (64 - s) := by simp
  have t1 : ((s : Int)).toNat = s := rfl
  have t2 : (64 - (s : Int)).toNat = 64 - s := by omega
  refine ⟨s, ((y * 2 ^ s : Nat) : Int), ((hi * 2 ^ s + lo / 2 ^ (64 - s) : Nat) : Int), ((lo * 2 ^ s % 18446744073709551616 : Nat) : Int), ?_⟩
  have wY : IntKind.u64.wrap ((y : Int) * 2 ^ s) = ((y * 2 ^ s : Nat) : Int) := by
    rw [← c2, ← Int.natCast_mul, IntKind.wrap_u64]; omega
  have wH : IntKind.u64.wrap ((hi : Int) * 2 ^ s) = ((hi * 2 ^ s : Nat) : Int) := by
    rw [← c2, ← Int.natCast_mul, IntKind.wrap_u64]; omega
  have wL : IntKind.u64.wrap ((lo : Int) * 2 ^ s) = ((lo * 2 ^ s % 18446744073709551616 : Nat) : Int) := by
    rw [← c2, ← Int.natCast_mul, IntKind.wrap_u64]; omega
  have wU : bits BinOp.or IntKind.u64 (IntKind.u64.wrap ((hi : Int) * 2 ^ s)) ((lo : Int) / 2 ^ (64 - s)) = ((hi * 2 ^ s + lo / 2 ^ (64 - s) : Nat) : Int) := by
    rw [wH, ← c3, ← Int.natCast_ediv, bits_or_u64_nat _ _ (by omega) (by omega), hor]
  have eN : ((hi : Int) * 18446744073709551616 + lo) * 2 ^ s = ((hi * 2 ^ s + lo / 2 ^ (64 - s) : Nat) : Int) * 18446744073709551616 + ((lo * 2 ^ s % 18446744073709551616 : Nat) : Int) := by
    rw [← c2]
    generalize hi * 2 ^ s + lo / 2 ^ (64 - s) = A at hsh ⊢
    generalize lo * 2 ^ s % 18446744073709551616 = B at hsh ⊢
    generalize 2 ^ s = p at hsh ⊢
    have h := congrArg (fun x : Nat => (x : Int)) hsh
    simp only [Int.natCast_add, Int.natCast_mul] at h
    exact h
  constructor
  case s0 => omega
  case s1 => omega
  case len => rw [Int.toNat_natCast]; exact hl
  case wY => rw [t1]; exact wY
  case Y0 => omega
  case Y1 => omega
  case wu => rw [t1, t2]; exact wU
  case u0 => omega
  case u1 => omega
  case wl => rw [t1]; exact wL
  case l0 => omega
  case l1 => omega
  case pos => rw [t1, ← c2]; omega
  case eY => rw [t1, ← c2, Int.natCast_mul]
  case eN => rw [t1]; exact eN
end Go.Proofs.YtbkpjhffmaldmaaGreatDoor.dec

namespace Go.Proofs.YtbkpjhffmaldmaaGreatDoor.dec
open Go.RowKit

theorem ab_eq (x : Int) : ab x = (x.natAbs : Int) := by unfold ab; split <;> omega
theorem ab_mul (x y : Int) : ab (x * y) = ab x * ab y := by rw [ab_eq, ab_eq, ab_eq, Int.natAbs_mul, Int.natCast_mul]

theorem quo_parts {a d : Int} (hd : d ≠ 0) : ∃ Q R, 0 ≤ Q ∧ 0 ≤ R ∧ R < ab d ∧ ab a = Q * ab d + R ∧ quo a d = Q + ru Q R (ab d) := by
  have hD : 0 < ab d := by unfold ab; split <;> omega
  refine ⟨ab a / ab d, ab a % ab d, Int.ediv_nonneg (ab_nonneg a) (by omega), Int.emod_nonneg _ (by omega), Int.emod_lt_of_pos _ hD, ?_, rfl⟩
  rw [Int.mul_comm]
  exact (Int.mul_ediv_add_emod _ _).symm
theorem ru_one {q r d : Int} (h : ru q r d = 1) : d - r < r ∨ (r = d - r ∧ q % 2 = 1) := by
  unfold ru at h
  split at h
  · assumption
  · omega
theorem ru_zero {q r d : Int} (h : ru q r d = 0) : ¬ (d - r < r ∨ (r = d - r ∧ q % 2 = 1)) := by
  unfold ru at h
  split at h
  · omega
  · assumption
theorem ru_two (q r d : Int) : ru q r d = 0 ∨ ru q r d = 1 := by unfold ru; split <;> omega
theorem ok_iff (a d : Int) : dvOk a d = true ↔ d ≠ 0 ∧ quo a d ≤ 1152921504606846976 := by unfold dvOk; rw [decide_eq_true_eq]

/-- What is left of a number behind the division. -/
theorem rounds {a d : Int} (h : dvOk a d = true) : d ≠ 0 ∧ -1152921504606846976 ≤ dv a d ∧ dv a d ≤ 1152921504606846976 ∧
    (ab (a - dv a d * d) + ab (a - dv a d * d) < ab d ∨ (ab (a - dv a d * d) + ab (a - dv a d * d) = ab d ∧ (dv a d).tmod 2 = 0)) := by
  rw [dv_yes h]
  rw [ok_iff] at h
  obtain ⟨hd, hq⟩ := h
  obtain ⟨Q, R, q0, r0, r1, e, f⟩ := quo_parts (a := a) hd
  unfold sq
  rw [f] at hq ⊢
  have hx := ru_two Q R (ab d)
  have h1 := @ru_one Q R (ab d)
  have h0 := @ru_zero Q R (ab d)
  generalize ru Q R (ab d) = x at *
  have eP : (Q + x) * ab d = Q * ab d + x * ab d := Int.add_mul _ _ _
  have eX : x * ab d = 0 ∧ x = 0 ∨ x * ab d = ab d ∧ x = 1 := by
    rcases hx with rfl | rfl
    · left; simp
    · right; simp
  have hz : Q + x = 0 → (Q + x) * ab d = 0 := fun h => by rw [h, Int.zero_mul]
  generalize hP : (Q + x) * ab d = P at *
  generalize x * ab d = X at *
  have hm : ∀ y : Int, y.tmod 2 = 0 ↔ y % 2 = 0 := fun y => by
    constructor
    · intro hy; exact Int.emod_eq_zero_of_dvd (Int.dvd_of_tmod_eq_zero hy)
    · intro hy; exact Int.tmod_eq_zero_of_dvd (Int.dvd_of_emod_eq_zero hy)
  have hmul : ∀ y, y = Q + x ∨ y = -(Q + x) → (y * d = P ∧ (y = Q + x ∧ 0 ≤ d ∨ y = -(Q + x) ∧ d < 0)) ∨ (y * d = -P ∧ (y = Q + x ∧ d < 0 ∨ y = -(Q + x) ∧ 0 ≤ d)) := by
    intro y hy
    have hab : ab d = d ∧ 0 ≤ d ∨ ab d = -d ∧ d < 0 := by unfold ab; split <;> omega
    rcases hab with ⟨g, gd⟩ | ⟨g, gd⟩ <;> rw [g] at hP <;> rcases hy with rfl | rfl
    · left; exact ⟨hP, .inl ⟨rfl, gd⟩⟩
    · right; exact ⟨by rw [Int.neg_mul, hP], .inr ⟨rfl, gd⟩⟩
    · right; exact ⟨by rw [Int.mul_neg] at hP; omega, .inl ⟨rfl, gd⟩⟩
    · left; exact ⟨by rw [Int.neg_mul, ← Int.mul_neg]; exact hP, .inr ⟨rfl, gd⟩⟩
  have key := hmul (if (a < 0 ∧ 0 ≤ d) ∨ (0 ≤ a ∧ d < 0) then -(Q + x) else Q + x) (by split <;> simp)
  rw [hm]
  generalize hy : (if (a < 0 ∧ 0 ≤ d) ∨ (0 ≤ a ∧ d < 0) then -(Q + x) else Q + x) = y at *
  have hy' : ((a < 0 ∧ 0 ≤ d) ∨ (0 ≤ a ∧ d < 0)) ∧ y = -(Q + x) ∨ ¬ ((a < 0 ∧ 0 ≤ d) ∨ (0 ≤ a ∧ d < 0)) ∧ y = Q + x := by
    split at hy <;> omega
  clear hy hmul hm
  generalize y * d = Y at *
  have hab : ab d = d ∧ 0 ≤ d ∨ ab d = -d ∧ d < 0 := by unfold ab; split <;> omega
  have haa : ab a = a ∧ 0 ≤ a ∨ ab a = -a ∧ a < 0 := by unfold ab; split <;> omega
  have har : ab (a - Y) = a - Y ∧ 0 ≤ a - Y ∨ ab (a - Y) = -(a - Y) ∧ a - Y < 0 := by unfold ab; split <;> omega
  generalize ab d = D at *
  generalize ab a = A at *
  generalize ab (a - Y) = T at *
  generalize Q * D = m at *
  refine ⟨hd, by omega, by omega, ?_⟩
  rcases eX with ⟨hX, rfl⟩ | ⟨hX, rfl⟩
  · have g := h0 rfl
    clear h0 h1
    omega
  · have g := h1 rfl
    clear h0 h1
    omega
theorem no_result {a d : Int} (h : dvOk a d = false) : dv a d = 0 := dv_no h

end Go.Proofs.YtbkpjhffmaldmaaGreatDoor.dec

namespace Go.Proofs.YtbkpjhffmaldmaaGreatDoor.dec
open Go.RowKit

theorem lim2 {A D Q R x m : Int} (e : A = m + R) (g : Q = 1152921504606846976) (h : m = 1152921504606846976 * D) (k : x = 0 ∧ ¬ (D - R < R ∨ (R = D - R ∧ Q % 2 = 1)) ∨ x = 1 ∧ (D - R < R ∨ (R = D - R ∧ Q % 2 = 1))) : Q + x ≤ 1152921504606846976 ↔ A + A ≤ D * 2305843009213693953 := by
  have p : ¬ Q % 2 = 1 := by rw [g]; decide
  have h2 : D * 2305843009213693953 = m + m + D := by rw [h, Int.mul_comm]; omega
  rw [h2, g]
  clear h h2 g
  constructor
  · intro _; omega
  · intro _; omega
/-- When there is a result. -/
theorem limit {a d : Int} (hd : d ≠ 0) : dvOk a d = true ↔ ab a + ab a ≤ ab d * 2305843009213693953 := by
  rw [ok_iff]
  obtain ⟨Q, R, q0, r0, r1, e, f⟩ := quo_parts (a := a) hd
  rw [f]
  have hx := ru_two Q R (ab d)
  have h1 := @ru_one Q R (ab d)
  have h0 := @ru_zero Q R (ab d)
  generalize ru Q R (ab d) = x at *
  rcases Int.lt_trichotomy Q 1152921504606846976 with g | g | g
  · clear h0 h1
    have := Int.mul_le_mul_of_nonneg_right (show Q + 1 ≤ 1152921504606846976 from by omega) (show 0 ≤ ab d from by omega)
    rw [Int.add_mul, Int.one_mul] at this
    generalize Q * ab d = m at *
    exact ⟨fun _ => by omega, fun _ => ⟨hd, by omega⟩⟩
  · have this : Q * ab d = 1152921504606846976 * ab d := by rw [g]
    generalize Q * ab d = m at *
    have k := lim2 (x := x) e g this (by
      rcases hx with hx | hx
      · exact .inl ⟨hx, h0 hx⟩
      · exact .inr ⟨hx, h1 hx⟩)
    exact ⟨fun h => k.1 h.2, fun h => ⟨hd, k.2 h⟩⟩
  · clear h0 h1
    have := Int.mul_le_mul_of_nonneg_right (show 1152921504606846977 ≤ Q from by omega) (show 0 ≤ ab d from by omega)
    generalize Q * ab d = m at *
    exact ⟨fun h => by omega, fun h => by omega⟩

/-- A product divided by one of its factors. -/
theorem dv_mul {q d : Int} (hd : d ≠ 0) : quo (q * d) d = ab q := by
  have hD : 0 < ab d := by unfold ab; split <;> omega
  unfold quo
  rw [ab_mul, Int.mul_ediv_cancel _ (by omega), Int.mul_emod_left]
  have : ru (ab q) 0 (ab d) = 0 := by unfold ru; rw [if_neg (by omega)]
  rw [this, Int.add_zero]
theorem mul_in {q d : Int} (q1 : -9223372036854775808 ≤ q) (q2 : q ≤ 9223372036854775807) (d1 : -9223372036854775808 ≤ d) (d2 : d ≤ 9223372036854775807) : In (q * d) := by
  have a1 : ab q ≤ 9223372036854775808 := by unfold ab; split <;> omega
  have a2 : ab d ≤ 9223372036854775808 := by unfold ab; split <;> omega
  have h := Int.mul_le_mul a1 a2 (ab_nonneg d) (by omega)
  rw [← ab_mul] at h
  unfold In
  unfold ab at h
  split at h <;> omega
theorem divides {q d : Int} (hd : d ≠ 0) (q1 : -1152921504606846976 ≤ q) (q2 : q ≤ 1152921504606846976) : dvOk (q * d) d = true ∧ dv (q * d) d = q := by
  have h : dvOk (q * d) d = true := by
    rw [ok_iff, dv_mul hd]
    exact ⟨hd, by unfold ab; split <;> omega⟩
  refine ⟨h, ?_⟩
  rw [dv_yes h]
  unfold sq
  rw [dv_mul hd]
  rcases Int.lt_trichotomy d 0 with g | g | g
  · rcases Int.lt_trichotomy q 0 with k | k | k
    · have := Int.mul_pos_of_neg_of_neg k g
      rw [if_pos (by omega), ab_neg k]; omega
    · subst k; rw [Int.zero_mul]; simp [ab]
    · have := Int.mul_neg_of_pos_of_neg k g
      rw [if_neg (by omega), ab_pos (by omega)]
  · omega
  · rcases Int.lt_trichotomy q 0 with k | k | k
    · have := Int.mul_neg_of_neg_of_pos k g
      rw [if_pos (by omega), ab_neg k]; omega
    · subst k; rw [Int.zero_mul]; simp [ab]
    · have := Int.mul_pos k g
      rw [if_neg (by omega), ab_pos (by omega)]
theorem divides_not {q d : Int} (h : d = 0 ∨ 1152921504606846976 < q ∨ q < -1152921504606846976) : dvOk (q * d) d = false := by
  by_cases hd : d = 0
  · unfold dvOk; simp [hd]
  · have : ¬ dvOk (q * d) d = true := by
      rw [ok_iff, dv_mul hd]
      unfold ab
      split <;> omega
    simpa using this
end Go.Proofs.YtbkpjhffmaldmaaGreatDoor.dec

namespace Go.Proofs.YtbkpjhffmaldmaaGreatDoor.dec
open Go.RowKit

/-- Is x in range? -/
def rg (x : Int) : Bool := decide (-1152921504606846976 ≤ x ∧ x ≤ 1152921504606846976)
/-- A result that is kept if it is in range. -/
def kx (x : Int) : Int := if rg x then x else 0
theorem rg_iff (x : Int) : rg x = true ↔ -1152921504606846976 ≤ x ∧ x ≤ 1152921504606846976 := by unfold rg; rw [decide_eq_true_eq]
theorem rg_no (x : Int) : rg x = false ↔ x < -1152921504606846976 ∨ 1152921504606846976 < x := by unfold rg; rw [decide_eq_false_iff_not]; omega
theorem kx_yes {x : Int} (h : rg x = true) : kx x = x := by unfold kx; rw [h]; rfl
theorem kx_no {x : Int} (h : rg x = false) : kx x = 0 := by unfold kx; rw [h]; rfl

theorem dvOk_one (a : Int) : dvOk a 1 = rg a := by
  cases h : rg a
  · rw [rg_no] at h
    have := divides_not (q := a) (d := 1) (by omega)
    rwa [Int.mul_one] at this
  · rw [rg_iff] at h
    have := (divides (q := a) (d := 1) (by decide) h.1 h.2).1
    rwa [Int.mul_one] at this
theorem dv_one (a : Int) : dv a 1 = kx a := by
  cases h : rg a
  · rw [kx_no h, no_result ((dvOk_one a).trans h)]
  · rw [kx_yes h]
    rw [rg_iff] at h
    have := (divides (q := a) (d := 1) (by decide) h.1 h.2).2
    rwa [Int.mul_one] at this
theorem ok_micro {x : Int} (h1 : -9223372036854775808 ≤ x) (h2 : x ≤ 9223372036854775807) : dvOk x 1000000 = true := by
  rw [limit (by decide)]
  have : ab (1000000 : Int) = 1000000 := rfl
  rw [this]
  unfold ab
  split <;> omega

/-- The answers of Add, Sub, Mul and Div, and whether there are any. -/
def adK (a b : Int) : Bool := rg a && (rg b && rg (a + b))
def adX (a b : Int) : Int := if adK a b then a + b else 0
def suK (a b : Int) : Bool := rg a && (rg b && rg (a - b))
def suX (a b : Int) : Int := if suK a b then a - b else 0
def muK (a b : Int) : Bool := rg a && (rg b && dvOk (a * b) 1000000)
def muX (a b : Int) : Int := if muK a b then dv (a * b) 1000000 else 0
def diK (a b : Int) : Bool := rg a && (rg b && dvOk (a * 1000000) b)
def diX (a b : Int) : Int := if diK a b then dv (a * 1000000) b else 0
/-- ToInt. -/
def ti (x : Int) : Int := dv x 1000000

theorem adK_in {a b : Int} (ha : rg a = true) (hb : rg b = true) : adK a b = rg (a + b) := by unfold adK; rw [ha, hb]; rfl
theorem suK_in {a b : Int} (ha : rg a = true) (hb : rg b = true) : suK a b = rg (a - b) := by unfold suK; rw [ha, hb]; rfl
theorem muK_in {a b : Int} (ha : rg a = true) (hb : rg b = true) : muK a b = dvOk (a * b) 1000000 := by unfold muK; rw [ha, hb]; rfl
theorem diK_in {a b : Int} (ha : rg a = true) (hb : rg b = true) : diK a b = dvOk (a * 1000000) b := by unfold diK; rw [ha, hb]; rfl
theorem adX_in {a b : Int} (ha : rg a = true) (hb : rg b = true) : adX a b = kx (a + b) := by unfold adX kx; rw [adK_in ha hb]
theorem suX_in {a b : Int} (ha : rg a = true) (hb : rg b = true) : suX a b = kx (a - b) := by unfold suX kx; rw [suK_in ha hb]
theorem muX_in {a b : Int} (ha : rg a = true) (hb : rg b = true) : muX a b = dv (a * b) 1000000 := by
  unfold muX; rw [muK_in ha hb]; split
  · rfl
  · rename_i h; exact (no_result (by simpa using h)).symm
theorem diX_in {a b : Int} (ha : rg a = true) (hb : rg b = true) : diX a b = dv (a * 1000000) b := by
  unfold diX; rw [diK_in ha hb]; split
  · rfl
  · rename_i h; exact (no_result (by simpa using h)).symm
theorem out_all {a b : Int} (h : rg a = false ∨ rg b = false) : adK a b = false ∧ suK a b = false ∧ muK a b = false ∧ diK a b = false ∧ adX a b = 0 ∧ suX a b = 0 ∧ muX a b = 0 ∧ diX a b = 0 := by
  have e1 : adK a b = false := by unfold adK; rcases h with h | h <;> rw [h] <;> simp
  have e2 : suK a b = false := by unfold suK; rcases h with h | h <;> rw [h] <;> simp
  have e3 : muK a b = false := by unfold muK; rcases h with h | h <;> rw [h] <;> simp
  have e4 : diK a b = false := by unfold diK; rcases h with h | h <;> rw [h] <;> simp
  refine ⟨e1, e2, e3, e4, ?_, ?_, ?_, ?_⟩
  · unfold adX; rw [e1]; rfl
  · unfold suX; rw [e2]; rfl
  · unfold muX; rw [e3]; rfl
  · unfold diX; rw [e4]; rfl

/-! What is left behind a division, for both signs; monotony; signs. -/
theorem near {a d : Int} (h : dvOk a d = true) : d ≠ 0 ∧ -1152921504606846976 ≤ dv a d ∧ dv a d ≤ 1152921504606846976 ∧
    2 * (dv a d * d - a) ≤ ab d ∧ -ab d ≤ 2 * (dv a d * d - a) ∧ (2 * (dv a d * d - a) = ab d ∨ 2 * (dv a d * d - a) = -ab d → (dv a d).tmod 2 = 0) := by
  obtain ⟨h0, h1, h2, h3⟩ := rounds h
  generalize dv a d * d = p at *
  have hx : ab (a - p) = a - p ∧ 0 ≤ a - p ∨ ab (a - p) = -(a - p) ∧ a - p < 0 := by unfold ab; split <;> omega
  refine ⟨h0, h1, h2, by omega, by omega, fun hh => ?_⟩
  rcases h3 with h3 | h3
  · omega
  · exact h3.2

theorem quo_neg_l (a d : Int) : quo (-a) d = quo a d := by
  have : ab (-a) = ab a := by unfold ab; split <;> split <;> omega
  unfold quo; rw [this]
theorem quo_neg_r (a d : Int) : quo a (-d) = quo a d := by
  have : ab (-d) = ab d := by unfold ab; split <;> split <;> omega
  unfold quo; rw [this]
theorem quo_zero (d : Int) : quo 0 d = 0 := by
  have : ab (0 : Int) = 0 := rfl
  unfold quo; rw [this]
  unfold ru
  simp only [Int.zero_ediv, Int.zero_emod]
  have := ab_nonneg d
  rw [if_neg (by omega)]
  rfl
theorem ok_neg_l (a d : Int) : dvOk (-a) d = dvOk a d := by unfold dvOk; rw [quo_neg_l]
theorem ok_neg_r (a d : Int) : dvOk a (-d) = dvOk a d := by unfold dvOk; rw [quo_neg_r]; congr 2; rw [eq_iff_iff]; omega
theorem dv_zero (d : Int) : dv 0 d = 0 := by
  unfold dv sq
  rw [quo_zero]
  split
  · split <;> rfl
  · rfl
theorem dv_neg_l (a d : Int) : dv (-a) d = -dv a d := by
  by_cases h0 : a = 0
  · subst h0; rw [Int.neg_zero, dv_zero]; rfl
  · unfold dv
    rw [ok_neg_l]
    split
    · unfold sq
      rw [quo_neg_l]
      split <;> split <;> omega
    · rfl
theorem dv_neg_r (a d : Int) : dv a (-d) = -dv a d := by
  by_cases h0 : a = 0
  · subst h0; rw [dv_zero, dv_zero]; rfl
  · by_cases hd : d = 0
    · subst hd
      have : ∀ a : Int, dv a 0 = 0 := fun a => no_result (by unfold dvOk; simp)
      rw [Int.neg_zero, this]; rfl
    · unfold dv
      rw [ok_neg_r]
      split
      · unfold sq
        rw [quo_neg_r]
        split <;> split <;> omega
      · rfl
/-- A greater number has no lesser quotient. -/
theorem dv_mono {a b d : Int} (hd : 0 < d) (hab : a ≤ b) (ha : dvOk a d = true) (hb : dvOk b d = true) : dv a d ≤ dv b d := by
  obtain ⟨_, _, _, a1, a2, a3⟩ := near ha
  obtain ⟨_, _, _, b1, b2, b3⟩ := near hb
  have e : ab d = d := by unfold ab; rw [if_neg (by omega)]
  rw [e] at a1 a2 a3 b1 b2 b3
  have hm : ∀ y : Int, y.tmod 2 = 0 → y % 2 = 0 := fun y hy => Int.emod_eq_zero_of_dvd (Int.dvd_of_tmod_eq_zero hy)
  replace a3 := fun h => hm _ (a3 h)
  replace b3 := fun h => hm _ (b3 h)
  clear hm
  generalize dv a d = x at *
  generalize dv b d = y at *
  by_cases h : x ≤ y
  · exact h
  · exfalso
    by_cases h2 : y + 2 ≤ x
    · have := Int.mul_le_mul_of_nonneg_right h2 (show 0 ≤ d from by omega)
      rw [Int.add_mul] at this
      generalize x * d = X at *
      generalize y * d = Y at *
      omega
    · obtain rfl : x = y + 1 := by omega
      rw [Int.add_mul, Int.one_mul] at a1 a2 a3
      generalize y * d = Y at *
      omega
end Go.Proofs.YtbkpjhffmaldmaaGreatDoor.dec
namespace Go.Proofs.YtbkpjhffmaldmaaGreatDoor.dec
open Go.RowKit Go.Shelf
theorem Tryz.lays134 : Go.Proofs.Lays.n134 Tryz.prog ⟨fun | 134 => 166 | 129 => 180 | n => n, fun | 53 => 136 | 3 => 3 | 4 => 4 | 46 => 186 | 5 => 5 | 9 => 9 | n => n, fun | n => n⟩ := {
  mixed := by kernel_rfl
  f129 := Tryz.func180.trans (congrArg some (by kernel_rfl))
  f134 := Tryz.func166.trans (congrArg some (by kernel_rfl))
  t3 := Tryz.underlying3
  a3 := Tryz.isAgg3
  z3 := Tryz.sizeOf3
  v3 := Tryz.zeroValue3
  t4 := Tryz.underlying4
  a4 := Tryz.isAgg4
  z4 := Tryz.sizeOf4
  v4 := Tryz.zeroValue4
  t5 := Tryz.underlying5
  a5 := Tryz.isAgg5
  z5 := Tryz.sizeOf5
  v5 := Tryz.zeroValue5
  t9 := Tryz.underlying9
  a9 := Tryz.isAgg9
  z9 := Tryz.sizeOf9
  v9 := Tryz.zeroValue9
  t46 := Tryz.underlying186
  a46 := Tryz.isAgg186
  z46 := Tryz.sizeOf186
  v46 := Tryz.zeroValue186
  t53 := Tryz.underlying136
  a53 := Tryz.isAgg136
  z53 := Tryz.sizeOf136
  v53 := Tryz.zeroValue136 }

theorem lead_any (x s : Int) (w : World) (h0 : 0 ≤ x) (h1 : x ≤ 18446744073709551615) (hs : 64 - (Lib.bitLen x.toNat : Int) = s) :
    Calls Tryz.prog 166 #[.int .u64 x] w fun e w' => e = .returned (.int .i64 s) ∧ w = w' := by
  refine (Any.bits_LeadingZeros64 Tryz.lays134 x w h0 h1).mono ?_
  rintro e w' ⟨rfl, rfl⟩
  rw [hs]
  exact ⟨rfl, rfl⟩

set_option maxHeartbeats 2000000 in
theorem div64_core (hi lo y s Y u l y1 y0 v1 v0 : Int) (w : World) (h1 : 1 ≤ hi) (h2 : hi < y) (h3 : y ≤ 18446744073709551615) (_h4 : 0 ≤ lo) (_h5 : lo ≤ 18446744073709551615)
    (hs : Hid (64 - (Lib.bitLen y.toNat : Int) = s)) (s1 : 0 ≤ s) (s2 : s ≤ 63)
    (wY : IntKind.u64.wrap (y * 2 ^ s.toNat) = Y) (wu : bits BinOp.or IntKind.u64 (IntKind.u64.wrap (hi * 2 ^ s.toNat)) (lo / 2 ^ (64 - s).toNat) = u) (wl : IntKind.u64.wrap (lo * 2 ^ s.toNat) = l)
    (wy1 : Y / 4294967296 = y1) (wy0 : bits .and .u64 Y 4294967295 = y0) (wv1 : l / 4294967296 = v1) (wv0 : bits .and .u64 l 4294967295 = v0)
    (Y1 : Y ≤ 18446744073709551615) (u0 : 0 ≤ u) (u1 : u ≤ 18446744073709551615) (_l0 : 0 ≤ l) (_l1 : l ≤ 18446744073709551615)
    (ya : 2147483648 ≤ y1) (yb : y1 ≤ 4294967295) (yc : 0 ≤ y0) (yd : y0 ≤ 4294967295) (va : 0 ≤ v1) (vb : v1 ≤ 4294967295) (vc : 0 ≤ v0) (vd : v0 ≤ 4294967295)
    (K1 : Kn Y y1 y0 u v1) (K2 : Kn Y y1 y0 (rst u v1 Y) v0) :
    Calls Tryz.prog 147 #[.int .u64 hi, .int .u64 lo, .int .u64 y] w fun e w' => e = .returned (.tuple #[.int .u64 (dig u v1 Y * 4294967296 + dig (rst u v1 Y) v0 Y), .int .u64 (rst (rst u v1 Y) v0 Y / 2 ^ s.toNat)]) ∧ w = w' := by
  have a1 := K1.start
  obtain ⟨a2, a3⟩ := a1
  have a4 : 0 ≤ u / y1 := by have := K1.nonneg; omega
  have a5 : u / y1 * y1 ≤ u := Int.ediv_mul_le _ (by omega)
  have a6 : 0 ≤ u / y1 * y1 := Int.mul_nonneg a4 (by omega)
  have a7 : u - u / y1 * y1 < y1 := by have := Int.emod_lt_of_pos u (show 0 < y1 from by omega); rw [Int.emod_def, Int.mul_comm y1] at this; exact this
  have H2 := Lib.hid a2; clear a2
  go_enter Tryz.func147, Tryz.ntmps147
  go_upto_block 0 with (go_at_call 166; refine (lead_any y s _ (by omega) h3 hs.out).mono ?_; rintro e w' ⟨rfl, rfl⟩)
  go_cut [15] (fun q wx => q = .int .u64 (dig u v1 Y) ∧ wx = w)
  case first =>
    go_wp2_with fail
    go_loop [15, 16] (fun q r => ∃ a b : Int, q = .int .u64 a ∧ r = .int .u64 b ∧ 0 ≤ a ∧ 0 ≤ b ∧ b ≤ 4294967295 ∧ Guess y1 u (dig u v1 Y) a b) (fun q _ => (intOf q).toNat)
    case atStart => exact ⟨_, _, rfl, rfl, a4, by omega, by omega, H2.out, a3, by omega⟩
    case round =>
      obtain ⟨a, b, rfl, rfl, a0, b0, b1, g1, g2, g3⟩ := hrel
      have T := Lib.hid (K1.test g3)
      have d0 := K1.nonneg
      have d1 := K1.lt
      have G3 := Lib.hid (step_eq g3)
      have U : Hid (4294967296 ≤ b + y1 → a ≤ 4294967297 → a - 1 ≤ dig u v1 Y) := fun h h' => K1.out (step_eq g3) (by omega) h
      clear g3
      by_cases c1 : 4294967296 ≤ a
      · by_cases c3 : 4294967296 ≤ b + y1
        · go_wp2
          go_meet
          have e : a - 1 = dig u v1 Y := by have := U.out c3 g2; omega
          exact ⟨by rw [← e], rfl⟩
        · go_wp2
          exact ⟨⟨a - 1, b + y1, rfl, rfl, by omega, by omega, by omega, by omega, by omega, G3.out⟩, by simp [intOf]; omega⟩
      · have m0 : 0 ≤ a * y0 := Int.mul_nonneg a0 yc
        have m1 : a * y0 ≤ 18446744073709551615 := by have := Int.mul_le_mul (show a ≤ 4294967295 from by omega) yd yc (by omega); omega
        by_cases c2 : 4294967296 * b + v1 < a * y0
        · have f : dig u v1 Y < a := by have := T.out; omega
          by_cases c3 : 4294967296 ≤ b + y1
          · go_wp2
            go_meet
            have e : a - 1 = dig u v1 Y := by have := U.out c3 g2; omega
            exact ⟨by rw [← e], rfl⟩
          · go_wp2
            exact ⟨⟨a - 1, b + y1, rfl, rfl, by omega, by omega, by omega, by omega, by omega, G3.out⟩, by simp [intOf]; omega⟩
        · have f : a = dig u v1 Y := by have := T.out; omega
          have F := Lib.hid f
          clear f
          go_wp2
          go_meet
          exact ⟨by rw [← F.out], rfl⟩
  case rest =>
    obtain ⟨rfl, rfl⟩ := hcut
    clear a3 a4 a5 a6 a7 H2
    obtain ⟨r0, r1⟩ := K1.rest
    change 0 ≤ rst u v1 Y at r0
    change rst u v1 Y < Y at r1
    have E := wrap_rst r0 (by omega)
    have d0 := K1.nonneg
    have d1 := K1.lt
    have a1 := K2.start
    obtain ⟨a2, a3⟩ := a1
    obtain ⟨z0, z1⟩ := K2.rest
    change 0 ≤ rst (rst u v1 Y) v0 Y at z0
    change rst (rst u v1 Y) v0 Y < Y at z1
    have E' := wrap_rst z0 (by omega)
    have e0 := K2.nonneg
    have e1 := K2.lt
    generalize hu' : rst u v1 Y = u' at *
    have HU := Lib.hid hu'
    clear hu'
    have a4 : 0 ≤ u' / y1 := by omega
    have a5 : u' / y1 * y1 ≤ u' := Int.ediv_mul_le _ (by omega)
    have a6 : 0 ≤ u' / y1 * y1 := Int.mul_nonneg a4 (by omega)
    have a7 : u' - u' / y1 * y1 < y1 := by have := Int.emod_lt_of_pos u' (show 0 < y1 from by omega); rw [Int.emod_def, Int.mul_comm y1] at this; exact this
    have H2 := Lib.hid a2; clear a2
    go_upto_block 2 with fail
    go_cut [18] (fun q wx => q = .int .u64 (dig u' v0 Y) ∧ wx = wc)
    case first =>
      go_wp2_with fail
      go_loop [18, 16] (fun q r => ∃ a b : Int, q = .int .u64 a ∧ r = .int .u64 b ∧ 0 ≤ a ∧ 0 ≤ b ∧ b ≤ 4294967295 ∧ Guess y1 u' (dig u' v0 Y) a b) (fun q _ => (intOf q).toNat)
      case atStart => exact ⟨_, _, rfl, rfl, a4, by omega, by omega, H2.out, a3, by omega⟩
      case round =>
        obtain ⟨a, b, rfl, rfl, a0, b0, b1, g1, g2, g3⟩ := hrel
        have T := Lib.hid (K2.test g3)
        have d0 := K2.nonneg
        have d1 := K2.lt
        have G3 := Lib.hid (step_eq g3)
        have U : Hid (4294967296 ≤ b + y1 → a ≤ 4294967297 → a - 1 ≤ dig u' v0 Y) := fun h h' => K2.out (step_eq g3) (by omega) h
        clear g3
        by_cases c1 : 4294967296 ≤ a
        · by_cases c3 : 4294967296 ≤ b + y1
          · go_wp2
            go_meet
            have e : a - 1 = dig u' v0 Y := by have := U.out c3 g2; omega
            exact ⟨by rw [← e], rfl⟩
          · go_wp2
            exact ⟨⟨a - 1, b + y1, rfl, rfl, by omega, by omega, by omega, by omega, by omega, G3.out⟩, by simp [intOf]; omega⟩
        · have m0 : 0 ≤ a * y0 := Int.mul_nonneg a0 yc
          have m1 : a * y0 ≤ 18446744073709551615 := by have := Int.mul_le_mul (show a ≤ 4294967295 from by omega) yd yc (by omega); omega
          by_cases c2 : 4294967296 * b + v0 < a * y0
          · have f : dig u' v0 Y < a := by have := T.out; omega
            by_cases c3 : 4294967296 ≤ b + y1
            · go_wp2
              go_meet
              have e : a - 1 = dig u' v0 Y := by have := U.out c3 g2; omega
              exact ⟨by rw [← e], rfl⟩
            · go_wp2
              exact ⟨⟨a - 1, b + y1, rfl, rfl, by omega, by omega, by omega, by omega, by omega, G3.out⟩, by simp [intOf]; omega⟩
          · have f : a = dig u' v0 Y := by have := T.out; omega
            have F := Lib.hid f
            clear f
            go_wp2
            go_meet
            exact ⟨by rw [← F.out], rfl⟩
    case rest =>
      obtain ⟨rfl, rfl⟩ := hcut
      clear a3 a4 a5 a6 a7 H2
      go_wp2
      go_ret2
      exact ⟨by rw [HU.out]; rfl, rfl⟩

/-- math/bits.Div64 where the quotient fits. -/
theorem div64_any (hi lo y : Int) (w : World) (h1 : 0 ≤ hi) (h2 : hi < y) (h3 : y ≤ 18446744073709551615) (h4 : 0 ≤ lo) (h5 : lo ≤ 18446744073709551615) :
    Calls Tryz.prog 147 #[.int .u64 hi, .int .u64 lo, .int .u64 y] w fun e w' => e = .returned (.tuple #[.int .u64 ((hi * 18446744073709551616 + lo) / y), .int .u64 ((hi * 18446744073709551616 + lo) % y)]) ∧ ∃ n, w' = w.drewN n := by
  by_cases h0 : hi = 0
  · subst h0
    have e1 : (0 : Int) * 18446744073709551616 + lo = lo := by omega
    rw [e1]
    clear e1
    go_enter Tryz.func147, Tryz.ntmps147
    go_wp2
    go_quiet (fail)
    go_wp2
    go_ret2
    exact ⟨rfl, _, rfl⟩
  · obtain ⟨s, Y, u, l, N⟩ := norm_any hi lo y h1 h2 h3 h4 h5
    have Y0 := N.Y0; have Y1 := N.Y1; have u0 := N.u0; have u1 := N.u1; have l0 := N.l0; have l1 := N.l1
    have ay := and_low Y (by omega) Y1
    have al := and_low l l0 l1
    have K1 : Kn Y (Y / 4294967296) (Y % 4294967296) u (l / 4294967296) := ⟨by omega, by omega, by omega, by omega, by omega, u0, u1, by omega, by omega⟩
    have R := K1.rest
    have K2 : Kn Y (Y / 4294967296) (Y % 4294967296) (rst u (l / 4294967296) Y) (l % 4294967296) := ⟨by omega, by omega, by omega, by omega, by omega, R.1, R.2, by omega, by omega⟩
    have D := two_digits (N := hi * 18446744073709551616 + lo) (v1 := l / 4294967296) (v0 := l % 4294967296) N.pos N.eN N.eY (by omega) (by omega) K2.rest.1 K2.rest.2
    refine (div64_core hi lo y s Y u l _ _ _ _ w (by omega) h2 h3 h4 h5 N.len N.s0 N.s1 N.wY N.wu N.wl rfl ay rfl al Y1 u0 (by omega) l0 l1 (by omega) (by omega) (by omega) (by omega) (by omega) (by omega) (by omega) (by omega) K1 K2).mono ?_
    rintro e w' ⟨rfl, rfl⟩
    rw [D.1, D.2]
    exact ⟨rfl, 0, rfl⟩
end Go.Proofs.YtbkpjhffmaldmaaGreatDoor.dec

namespace Go.Proofs.YtbkpjhffmaldmaaGreatDoor.dec
open Go.RowKit Go.Shelf

theorem keeps_alloc {w : World} {p : Addr} {v : Value} (o : Obj) (h : w.cell? p = some v) : (w.alloc o).cell? p = some v := by
  rw [World.cell?_alloc_lt _ _ _ (block_lt_of_cell h)]; exact h
theorem below_drewN' {B : Nat} {a w : World} (h : Below B a w) (n : Nat) : Below B a (w.drewN n) := ⟨h.os, h.tape, h.output, h.size, h.block⟩
theorem divide_below {w w1 w2 : World} {o1 o2 : Obj} (o3 : Obj) (hb1 : Below (w.alloc o1).heap.size (w.alloc o1) w1) (hb2 : Below (w1.alloc o2).heap.size (w1.alloc o2) w2) : Below w.heap.size w (w2.alloc o3) := by
  have s1 := hb1.size
  have s2 := hb2.size
  simp only [World.size_alloc] at s1 s2
  have b1 : Below w.heap.size w w1 := ((Below.refl _ _).alloc (Nat.le_refl _) _).trans (hb1.mono (by simp))
  have b2 : Below w.heap.size w w2 := (b1.alloc (by omega) _).trans (hb2.mono (by simp; omega))
  exact b2.alloc (by omega) _

set_option maxHeartbeats 1000000 in
/-- exact.Divide. -/
theorem divide_any {y : Value} {a : Int} (d : Int) (hx : y = W a) (ia : In a) (w : World) (d1 : -9223372036854775808 ≤ d) (d2 : d ≤ 9223372036854775807) :
    Calls Tryz.prog 121 #[y, .int .i64 d] w fun e w' => e = .returned (.tuple #[.int .i64 (dv a d), .bool (dvOk a d)]) ∧ Below w.heap.size w w' := by
  subst hx
  obtain ⟨A, D, ah, al, q, r, x, h⟩ : ∃ A D ah al q r x, Dv a d A D ah al q r x := ⟨_, _, _, _, _, _, _, rfl, rfl, rfl, rfl, rfl, rfl, rfl⟩
  have id : In d := by unfold In; omega
  have sa := hi_neg ia
  have rA := ab_nonneg a
  have rD := ab_nonneg d
  have rD' : ab d ≤ 9223372036854775808 := by unfold ab; split <;> omega
  have rA' : ab a ≤ 170141183460469231731687303715884105728 := by unfold In at ia; unfold ab; split <;> omega
  have cA := size_any (a := a) rfl ia
  have cD := size_any (a := d) rfl id
  rw [h.A0, h.eah, h.eal] at cA
  rw [h.D0] at cD rD rD'
  rw [h.A0] at rA rA'
  have eD : D % 18446744073709551616 = D := by omega
  rw [eD] at cD
  have bh1 : 0 ≤ ah := by have := h.eah; omega
  have bl1 : 0 ≤ al := by have := h.eal; omega
  have bl2 : al ≤ 18446744073709551615 := by have := h.eal; omega
  have CA := Lib.hid cA
  have CD := Lib.hid cD
  clear cA cD eD
  have i0 : ∀ w, (Instr.index 170 (.agg #[.int .u64 D, .int .u64 (D / 18446744073709551616)]) (.int .i64 0)).run Tryz.prog w = .ok (.int .u64 D) w := fun _ => by kernel_rfl
  unfold W
  by_cases c1 : D ≤ ah
  · have R1 := Lib.hid (h.none1 c1)
    have R2 := Lib.hid (dv_no R1.out)
    clear h
    go_enter Tryz.func121, Tryz.ntmps121
    go_wp2_with fail
    refine (CA.out _).mono ?_
    rintro e w1 ⟨rfl, hb1⟩
    obtain ⟨hc1, hf1, hs1⟩ := bfacts hb1
    go_wp2_with fail
    refine (of_any _ _ d1 d2).mono ?_
    rintro e w' ⟨rfl, k1, rfl⟩
    go_wp2_with fail
    refine (CD.out _).mono ?_
    rintro e w2 ⟨rfl, hb2⟩
    obtain ⟨hc2, hf2, hs2⟩ := bfacts hb2
    go_wp2_with fail
    go_ret2
    exact ⟨by rw [R1.out, R2.out]; rfl, divide_below _ hb1 hb2⟩
  · have q0 : 0 ≤ q := by rw [h.eq]; exact Int.ediv_nonneg rA rD
    have q1 : q ≤ 18446744073709551615 := by
      have : q < 18446744073709551616 := by rw [h.eq, Int.ediv_lt_iff_lt_mul (by omega)]; have := h.eah; omega
      omega
    have r0 : 0 ≤ r := by rw [h.er]; exact Int.emod_nonneg _ (by omega)
    have r1 : r < D := by rw [h.er]; exact Int.emod_lt_of_pos _ (by omega)
    obtain ⟨x0, x1⟩ := ru_range q r D
    rw [← h.ex] at x0 x1
    have eA : ah * 18446744073709551616 + al = A := by have := h.eah; have := h.eal; omega
    have CV : Hid (∀ w, Calls Tryz.prog 147 #[.int .u64 ah, .int .u64 al, .int .u64 D] w fun e w' => e = .returned (.tuple #[.int .u64 q, .int .u64 r]) ∧ ∃ n, w' = w.drewN n) := by
      intro w
      have := div64_any ah al D w bh1 (by omega) (by omega) bl1 bl2
      rw [eA, ← h.eq, ← h.er] at this
      exact this
    have CR : Hid (∀ w, Calls Tryz.prog 148 #[.int .u64 q, .int .u64 r, .int .u64 D] w fun e w' => e = .returned (.int .u64 x) ∧ w = w') := by
      intro w
      have := roundUp_any q r D w q0 r0 r1 (by omega)
      rw [← h.ex] at this
      exact this
    clear eA
    have R3 := Lib.hid (fun g => h.none3 g)
    have R2 := Lib.hid (fun g => h.none2 g)
    have R4 := Lib.hid (fun g => h.some (by omega) g)
    have R5 := Lib.hid h.sq
    clear h
    by_cases c2 : 1152921504606846976 < q
    · have R1 := Lib.hid (R3.out c2)
      have R2 := Lib.hid (dv_no R1.out)
      go_enter Tryz.func121, Tryz.ntmps121
      go_wp2_with fail
      refine (CA.out _).mono ?_
      rintro e w1 ⟨rfl, hb1⟩
      obtain ⟨hc1, hf1, hs1⟩ := bfacts hb1
      go_wp2_with fail
      refine (of_any _ _ d1 d2).mono ?_
      rintro e w' ⟨rfl, k1, rfl⟩
      go_wp2_with fail
      refine (CD.out _).mono ?_
      rintro e w2 ⟨rfl, hb2⟩
      obtain ⟨hc2, hf2, hs2⟩ := bfacts hb2
      go_wp2_with fail
      refine (CV.out _).mono ?_
      rintro e w' ⟨rfl, n, rfl⟩
      go_wp2_with fail
      go_ret2
      exact ⟨by rw [R1.out, R2.out]; rfl, below_drewN' (divide_below _ hb1 hb2) _⟩
    · by_cases c3 : 1152921504606846976 < q + x
      · have R1 := Lib.hid (R2.out c3)
        have R2 := Lib.hid (dv_no R1.out)
        go_enter Tryz.func121, Tryz.ntmps121
        go_wp2_with fail
        refine (CA.out _).mono ?_
        rintro e w1 ⟨rfl, hb1⟩
        obtain ⟨hc1, hf1, hs1⟩ := bfacts hb1
        go_wp2_with fail
        refine (of_any _ _ d1 d2).mono ?_
        rintro e w' ⟨rfl, k1, rfl⟩
        go_wp2_with fail
        refine (CD.out _).mono ?_
        rintro e w2 ⟨rfl, hb2⟩
        obtain ⟨hc2, hf2, hs2⟩ := bfacts hb2
        go_wp2_with fail
        refine (CV.out _).mono ?_
        rintro e w' ⟨rfl, n, rfl⟩
        go_wp2_with fail
        refine (CR.out _).mono ?_
        rintro e w' ⟨rfl, rfl⟩
        go_wp2_with fail
        go_ret2
        exact ⟨by rw [R1.out, R2.out]; rfl, below_drewN' (divide_below _ hb1 hb2) _⟩
      · have R1 := Lib.hid (R4.out (by omega))
        have R6 := Lib.hid (dv_yes R1.out)
        by_cases s1 : a < 0
        · have s1' : hi a < 0 := sa.2 s1
          have s1'' : decide (hi a < 0) = true := by simp; omega
          clear sa
          by_cases s2 : d < 0
          · have s2' : decide (d < 0) = true := by simp; omega
            have R7 : Hid (sq a d = q + x) := by unfold Hid; rw [R5.out, if_neg (by omega)]
            go_enter Tryz.func121, Tryz.ntmps121
            go_wp2_with fail
            refine (CA.out _).mono ?_
            rintro e w1 ⟨rfl, hb1⟩
            have f1 := keeps hb1 (k := w.heap.size) (o := 0) (v := .int .i64 (hi a)) (by simp [go_sem])
            go_wp2_with fail
            refine (of_any _ _ d1 d2).mono ?_
            rintro e w' ⟨rfl, k1, rfl⟩
            go_wp2_with fail
            refine (CD.out _).mono ?_
            rintro e w2 ⟨rfl, hb2⟩
            have f2 := keeps hb2 (keeps_alloc _ f1)
            have z2 : w.heap.size < w2.heap.size := block_lt_of_cell f2
            go_wp2_with fail
            refine (CV.out _).mono ?_
            rintro e w' ⟨rfl, n, rfl⟩
            go_wp2_with fail
            refine (CR.out _).mono ?_
            rintro e w' ⟨rfl, rfl⟩
            go_wp2_with fail
            go_ret2
            exact ⟨by rw [R1.out, R6.out, R7.out]; rfl, below_drewN' (divide_below _ hb1 hb2) _⟩
          · have s2' : decide (d < 0) = false := by simp; omega
            have R7 : Hid (sq a d = -(q + x)) := by unfold Hid; rw [R5.out, if_pos (by omega)]
            go_enter Tryz.func121, Tryz.ntmps121
            go_wp2_with fail
            refine (CA.out _).mono ?_
            rintro e w1 ⟨rfl, hb1⟩
            have f1 := keeps hb1 (k := w.heap.size) (o := 0) (v := .int .i64 (hi a)) (by simp [go_sem])
            go_wp2_with fail
            refine (of_any _ _ d1 d2).mono ?_
            rintro e w' ⟨rfl, k1, rfl⟩
            go_wp2_with fail
            refine (CD.out _).mono ?_
            rintro e w2 ⟨rfl, hb2⟩
            have f2 := keeps hb2 (keeps_alloc _ f1)
            have z2 : w.heap.size < w2.heap.size := block_lt_of_cell f2
            go_wp2_with fail
            refine (CV.out _).mono ?_
            rintro e w' ⟨rfl, n, rfl⟩
            go_wp2_with fail
            refine (CR.out _).mono ?_
            rintro e w' ⟨rfl, rfl⟩
            go_wp2_with fail
            go_ret2
            exact ⟨by rw [R1.out, R6.out, R7.out]; rfl, below_drewN' (divide_below _ hb1 hb2) _⟩
        · have s1' : ¬ hi a < 0 := by omega
          have s1'' : decide (hi a < 0) = false := by simp; omega
          clear sa
          by_cases s2 : d < 0
          · have s2' : decide (d < 0) = true := by simp; omega
            have R7 : Hid (sq a d = -(q + x)) := by unfold Hid; rw [R5.out, if_pos (by omega)]
            go_enter Tryz.func121, Tryz.ntmps121
            go_wp2_with fail
            refine (CA.out _).mono ?_
            rintro e w1 ⟨rfl, hb1⟩
            have f1 := keeps hb1 (k := w.heap.size) (o := 0) (v := .int .i64 (hi a)) (by simp [go_sem])
            go_wp2_with fail
            refine (of_any _ _ d1 d2).mono ?_
            rintro e w' ⟨rfl, k1, rfl⟩
            go_wp2_with fail
            refine (CD.out _).mono ?_
            rintro e w2 ⟨rfl, hb2⟩
            have f2 := keeps hb2 (keeps_alloc _ f1)
            have z2 : w.heap.size < w2.heap.size := block_lt_of_cell f2
            go_wp2_with fail
            refine (CV.out _).mono ?_
            rintro e w' ⟨rfl, n, rfl⟩
            go_wp2_with fail
            refine (CR.out _).mono ?_
            rintro e w' ⟨rfl, rfl⟩
            go_wp2_with fail
            go_ret2
            exact ⟨by rw [R1.out, R6.out, R7.out]; rfl, below_drewN' (divide_below _ hb1 hb2) _⟩
          · have s2' : decide (d < 0) = false := by simp; omega
            have R7 : Hid (sq a d = q + x) := by unfold Hid; rw [R5.out, if_neg (by omega)]
            go_enter Tryz.func121, Tryz.ntmps121
            go_wp2_with fail
            refine (CA.out _).mono ?_
            rintro e w1 ⟨rfl, hb1⟩
            have f1 := keeps hb1 (k := w.heap.size) (o := 0) (v := .int .i64 (hi a)) (by simp [go_sem])
            go_wp2_with fail
            refine (of_any _ _ d1 d2).mono ?_
            rintro e w' ⟨rfl, k1, rfl⟩
            go_wp2_with fail
            refine (CD.out _).mono ?_
            rintro e w2 ⟨rfl, hb2⟩
            have f2 := keeps hb2 (keeps_alloc _ f1)
            have z2 : w.heap.size < w2.heap.size := block_lt_of_cell f2
            go_wp2_with fail
            refine (CV.out _).mono ?_
            rintro e w' ⟨rfl, n, rfl⟩
            go_wp2_with fail
            refine (CR.out _).mono ?_
            rintro e w' ⟨rfl, rfl⟩
            go_wp2_with fail
            go_ret2
            exact ⟨by rw [R1.out, R6.out, R7.out]; rfl, below_drewN' (divide_below _ hb1 hb2) _⟩
end Go.Proofs.YtbkpjhffmaldmaaGreatDoor.dec

namespace Go.Proofs.YtbkpjhffmaldmaaGreatDoor.dec
open Go.RowKit Go.Shelf

theorem bnext {w a b : World} (h : Below w.heap.size w a) (k : Below a.heap.size a b) : Below w.heap.size w b := h.trans (k.mono h.size)
theorem balloc {w a : World} (h : Below w.heap.size w a) (o : Obj) : Below w.heap.size w (a.alloc o) := h.alloc h.size o
theorem b0 (w : World) : Below w.heap.size w w := Below.refl _ _

theorem of_b (n : Int) (w : World) (h1 : -9223372036854775808 ≤ n) (h2 : n ≤ 9223372036854775807) :
    Calls Tryz.prog 120 #[.int .i64 n] w fun e w' => e = .returned (W n) ∧ Below w.heap.size w w' :=
  (of_any n w h1 h2).mono fun _ _ ⟨he, _, hw⟩ => ⟨he, hw ▸ balloc (b0 w) _⟩
theorem sub_b {x y : Value} {a b : Int} (hx : x = W a) (hy : y = W b) (w : World) :
    Calls Tryz.prog 179 #[x, y] w fun e w' => e = .returned (W (a - b)) ∧ Below w.heap.size w w' :=
  (sub_any hx hy w).mono fun _ _ ⟨he, _, _, _, hw⟩ => ⟨he, hw ▸ balloc (balloc (balloc (b0 w) _) _) _⟩
theorem neg_b {x : Value} {a : Int} (hx : x = W a) (w : World) :
    Calls Tryz.prog 165 #[x] w fun e w' => e = .returned (W (-a)) ∧ Below w.heap.size w w' :=
  (neg_any hx w).mono fun _ _ ⟨he, _, _, _, _, _, hw⟩ => ⟨he, hw ▸ balloc (balloc (balloc (balloc (balloc (b0 w) _) _) _) _) _⟩
/-! The contracts with the pair written out. -/
theorem of_u (n : Int) (w : World) (h1 : -9223372036854775808 ≤ n) (h2 : n ≤ 9223372036854775807) :
    Calls Tryz.prog 120 #[.int .i64 n] w fun e w' => e = .returned (.agg #[.int .i64 (hi n), .int .u64 (lo n)]) ∧ Go.RowKit.Below w.heap.size w w' := of_b n w h1 h2
theorem sub_u (a b : Int) (w : World) :
    Calls Tryz.prog 179 #[.agg #[.int .i64 (hi a), .int .u64 (lo a)], .agg #[.int .i64 (hi b), .int .u64 (lo b)]] w fun e w' => e = .returned (.agg #[.int .i64 (hi (a - b)), .int .u64 (lo (a - b))]) ∧ Go.RowKit.Below w.heap.size w w' := sub_b rfl rfl w
theorem neg_u (a : Int) (w : World) :
    Calls Tryz.prog 165 #[.agg #[.int .i64 (hi a), .int .u64 (lo a)]] w fun e w' => e = .returned (.agg #[.int .i64 (hi (-a)), .int .u64 (lo (-a))]) ∧ Go.RowKit.Below w.heap.size w w' := neg_b rfl w
theorem mul_u (a b : Int) (w : World) (h1 : -9223372036854775808 ≤ a) (h2 : a ≤ 9223372036854775807) (h3 : -9223372036854775808 ≤ b) (h4 : b ≤ 9223372036854775807) :
    Calls Tryz.prog 159 #[.int .i64 a, .int .i64 b] w fun e w' => e = .returned (.agg #[.int .i64 (hi (a * b)), .int .u64 (lo (a * b))]) ∧ Go.RowKit.Below w.heap.size w w' := mul_any a b w h1 h2 h3 h4
theorem scale_u (a n : Int) (w : World) (h1 : -9223372036854775808 ≤ n) (h2 : n ≤ 9223372036854775807) :
    Calls Tryz.prog 177 #[.agg #[.int .i64 (hi a), .int .u64 (lo a)], .int .i64 n] w fun e w' => e = .returned (.agg #[.int .i64 (hi (a * n)), .int .u64 (lo (a * n))]) ∧ Go.RowKit.Below w.heap.size w w' := scale_any n rfl w h1 h2

theorem divide_at {a d r : Int} {b : Bool} (ia : In a) (d1 : -9223372036854775808 ≤ d) (d2 : d ≤ 9223372036854775807) (hr : dv a d = r) (hb : dvOk a d = b) (w : World) :
    Calls Tryz.prog 121 #[.agg #[.int .i64 (hi a), .int .u64 (lo a)], .int .i64 d] w fun e w' => e = .returned (.tuple #[.int .i64 r, .bool b]) ∧ Go.RowKit.Below w.heap.size w w' := by
  have := divide_any (a := a) d rfl ia w d1 d2
  rw [hr, hb] at this
  exact this
theorem cmp_cases (a b : Int) : (a < b ∧ cmp a b = -1) ∨ (a = b ∧ cmp a b = 0) ∨ (b < a ∧ cmp a b = 1) := by
  rcases Int.lt_trichotomy a b with h | h | h
  · exact .inl ⟨h, cmp_lt h⟩
  · exact .inr (.inl ⟨h, cmp_eq h⟩)
  · exact .inr (.inr ⟨h, cmp_gt h⟩)

/-! A variable of type Wide: the block k holds the pair of a. -/
def Box (w : World) (k : Nat) (a : Int) : Prop := w.cell? ⟨k, 0, none⟩ = some (.int .i64 (hi a)) ∧ w.cell? ⟨k, 1, none⟩ = some (.int .u64 (lo a))
theorem Box.new (w : World) (a : Int) : Box (w.alloc (.cells #[.int .i64 (hi a), .int .u64 (lo a)] 138)) w.heap.size a := ⟨by simp [go_sem], by simp [go_sem]⟩
theorem Box.keeps {w w1 : World} {k : Nat} {a : Int} (h : Box w k a) (hb : Go.RowKit.Below w.heap.size w w1) : Box w1 k a := ⟨Go.Proofs.YtbkpjhffmaldmaaGreatDoor.dec.keeps hb h.1, Go.Proofs.YtbkpjhffmaldmaaGreatDoor.dec.keeps hb h.2⟩
theorem Box.past {w : World} {k : Nat} {a : Int} (h : Box w k a) (o : Obj) : Box (w.alloc o) k a := ⟨keeps_alloc o h.1, keeps_alloc o h.2⟩
theorem Box.lt {w : World} {k : Nat} {a : Int} (h : Box w k a) : k < w.heap.size := block_lt_of_cell h.1
theorem Box.regrown {w : World} {k : Nat} {a : Int} (h : Box w k a) :
    (∀ d os, (Sort.grow (redrawn w d) os).cell? ⟨k, 0, none⟩ = some (.int .i64 (hi a))) ∧ (∀ d os, (Sort.grow (redrawn w d) os).cell? ⟨k, 1, none⟩ = some (.int .u64 (lo a))) := ⟨cell_regrown h.1, cell_regrown h.2⟩

theorem Box.put {w : World} {k : Nat} {a : Int} (h : Box w k a) (b : Int) : Box ((w.setCell ⟨k, 0, none⟩ (.int .i64 (hi b))).setCell ⟨k, 1, none⟩ (.int .u64 (lo b))) k b := read2 h.1 h.2 _ _
theorem Box.off {w : World} {k k' : Nat} {a : Int} (h : Box w k a) (hk : k' ≠ k) (u v : Value) : Box ((w.setCell ⟨k', 0, none⟩ u).setCell ⟨k', 1, none⟩ v) k a := by
  have e : ∀ o o', (⟨k', o, none⟩ : Addr) ≠ ⟨k, o', none⟩ := fun _ _ h => hk (congrArg Addr.block h)
  unfold Box
  rw [World.cell?_setCell_other _ _ _ _ (e 1 0), World.cell?_setCell_other _ _ _ _ (e 0 0), World.cell?_setCell_other _ _ _ _ (e 1 1), World.cell?_setCell_other _ _ _ _ (e 0 1)]
  exact h
/-- The block k may be written. -/
def Free (w : World) (k : Nat) : Prop := w.frozen? ⟨k, 0, none⟩ = false ∧ w.frozen? ⟨k, 1, none⟩ = false ∧ k < w.heap.size
theorem Free.new (w : World) (c : Array Value) : Free (w.alloc (.cells c 138)) w.heap.size := ⟨by simp [go_sem], by simp [go_sem], by simp⟩
theorem Free.keeps {w w1 : World} {k : Nat} (h : Free w k) (hb : Go.RowKit.Below w.heap.size w w1) : Free w1 k :=
  ⟨by rw [hb.frozen (p := ⟨k, 0, none⟩) h.2.2]; exact h.1, by rw [hb.frozen (p := ⟨k, 1, none⟩) h.2.2]; exact h.2.1, Nat.lt_of_lt_of_le h.2.2 hb.size⟩
theorem Free.past {w : World} {k : Nat} (h : Free w k) (c : Array Value) (t : TypeId) : Free (w.alloc (.cells c t)) k :=
  h.keeps ((Go.RowKit.Below.refl _ _).alloc (Nat.le_refl _) _)

/-- The block k holds a zero Wide that may be written. -/
def Fresh (w : World) (k : Nat) : Prop := w.cell? ⟨k, 0, none⟩ = some (.int .i64 0) ∧ w.cell? ⟨k, 1, none⟩ = some (.int .u64 0) ∧ Free w k
theorem Fresh.new (w : World) : Fresh (w.alloc (.cells #[.int .i64 0, .int .u64 0] 138)) w.heap.size := ⟨by simp [go_sem], by simp [go_sem], Free.new w _⟩
theorem Fresh.keeps {w w1 : World} {k : Nat} (h : Fresh w k) (hb : Go.RowKit.Below w.heap.size w w1) : Fresh w1 k := ⟨Go.Proofs.YtbkpjhffmaldmaaGreatDoor.dec.keeps hb h.1, Go.Proofs.YtbkpjhffmaldmaaGreatDoor.dec.keeps hb h.2.1, h.2.2.keeps hb⟩
theorem Fresh.put {w : World} {k : Nat} (h : Fresh w k) (b : Int) : Box ((w.setCell ⟨k, 0, none⟩ (.int .i64 (hi b))).setCell ⟨k, 1, none⟩ (.int .u64 (lo b))) k b := read2 h.1 h.2.1 _ _
/-- A parameter in memory, and nothing old changed. -/
def StA (w w' : World) (k : Nat) (a : Int) : Prop := Box w' k a ∧ Go.RowKit.Below w.heap.size w w'
theorem StA.out {w w' : World} {k : Nat} {a : Int} (h : StA w w' k a) : w'.cell? ⟨k, 0, none⟩ = some (.int .i64 (hi a)) ∧ w'.cell? ⟨k, 1, none⟩ = some (.int .u64 (lo a)) ∧ Go.RowKit.Below w.heap.size w w' := ⟨h.1.1, h.1.2, h.2⟩
theorem StA.next {w w1 w2 : World} {k : Nat} {a : Int} (h : StA w w1 k a) (hb : Go.RowKit.Below w1.heap.size w1 w2) : StA w w2 k a := ⟨h.1.keeps hb, bnext h.2 hb⟩
theorem StA.alloc {w w1 : World} {k : Nat} {a : Int} (h : StA w w1 k a) (o : Obj) : StA w (w1.alloc o) k a := ⟨h.1.past o, balloc h.2 o⟩
theorem StA.put {w w4 w5 : World} {k : Nat} {a : Int} (h4 : StA w w4 k a) (h : StA w w5 k a) (u v : Value) : StA w ((w5.setCell ⟨w4.heap.size, 0, none⟩ u).setCell ⟨w4.heap.size, 1, none⟩ v) k a :=
  ⟨h.1.off (by have := h4.1.lt; omega) u v, store2 h.2 h4.2.size u v⟩

end Go.Proofs.YtbkpjhffmaldmaaGreatDoor.dec

namespace Go.Proofs.YtbkpjhffmaldmaaGreatDoor.dec
open Go.RowKit Go.Shelf

theorem checked_any {a : Int} (ia : In a) (w : World) :
    Calls Tryz.prog 158 #[.agg #[.int .i64 (hi a), .int .u64 (lo a)]] w fun e w' => e = .returned (.tuple #[.int .i64 (kx a), .bool (rg a)]) ∧ Below w.heap.size w w' := by
  have CD := Lib.hid (divide_at (a := a) (d := 1) ia (by decide) (by decide) (dv_one a) (dvOk_one a))
  go_enter Tryz.func158, Tryz.ntmps158
  go_wp2_with (go_at_call 121; refine (CD.out _).mono ?_; rintro e w1 ⟨rfl, hb⟩)
  go_ret2
  exact ⟨rfl, bnext (balloc (b0 w) _) hb⟩

end Go.Proofs.YtbkpjhffmaldmaaGreatDoor.dec

namespace Go.Proofs.YtbkpjhffmaldmaaGreatDoor.dec
open Go.RowKit Go.Shelf

theorem refInRange_any (x : Int) (w : World) : Calls Tryz.prog 161 #[.int .i64 x] w fun e w' => e = .returned (.bool (rg x)) ∧ w = w' := by
  by_cases h1 : -1152921504606846976 ≤ x
  · by_cases h2 : x ≤ 1152921504606846976
    · have e : Hid (rg x = true) := (rg_iff x).2 ⟨h1, h2⟩
      have c1 : decide (-1152921504606846976 ≤ x) = true := by simpa using h1
      have c2 : decide (x ≤ 1152921504606846976) = true := by simpa using h2
      go_enter Tryz.func161, Tryz.ntmps161
      go_wp2
      go_ret
      exact ⟨by rw [e.out]; rfl, rfl⟩
    · have e : Hid (rg x = false) := (rg_no x).2 (by omega)
      have c1 : decide (-1152921504606846976 ≤ x) = true := by simpa using h1
      have c2 : decide (x ≤ 1152921504606846976) = false := by simp; omega
      go_enter Tryz.func161, Tryz.ntmps161
      go_wp2
      go_ret
      exact ⟨by rw [e.out]; rfl, rfl⟩
  · have e : Hid (rg x = false) := (rg_no x).2 (by omega)
    have c1 : decide (-1152921504606846976 ≤ x) = false := by simp; omega
    go_enter Tryz.func161, Tryz.ntmps161
    go_wp2
    go_ret
    exact ⟨by rw [e.out]; rfl, rfl⟩

end Go.Proofs.YtbkpjhffmaldmaaGreatDoor.dec
namespace Go.Proofs.YtbkpjhffmaldmaaGreatDoor.dec
open Go.RowKit Go.Shelf

/-- decimal.withDigit. -/
def wd (n d : Int) : Int := if 115292150460684697 < n then 1152921504606846977 else 10 * n + d
theorem wd_range {n d : Int} (n0 : 0 ≤ n) (d0 : 0 ≤ d) (d9 : d ≤ 9) : 0 ≤ wd n d ∧ wd n d ≤ 1152921504606846979 := by unfold wd; split <;> omega
theorem withDigit_any (n d : Int) (w : World) (n0 : 0 ≤ n) (d0 : 0 ≤ d) (d9 : d ≤ 9) :
    Calls Tryz.prog 176 #[.int .i64 n, .int .i64 d] w fun e w' => e = .returned (.int .i64 (wd n d)) ∧ w = w' := by
  by_cases h : 115292150460684697 < n
  · have e : Hid (wd n d = 1152921504606846977) := if_pos h
    go_enter Tryz.func176, Tryz.ntmps176
    go_wp2
    go_ret
    exact ⟨by rw [e.out]; rfl, rfl⟩
  · have e : Hid (wd n d = 10 * n + d) := if_neg h
    go_enter Tryz.func176, Tryz.ntmps176
    go_wp2
    go_ret
    exact ⟨by rw [e.out]; rfl, rfl⟩

/-- The byte at a place, as a number; 0 beyond the end. -/
def byteAt (l : List UInt8) (i : Nat) : Int := ((l.getD i 0).toNat : Int)
/-- The loop of decimal.readDigits, from the place i on: where it ends, the number, and the point's place (the length while there is none). -/
def rd (l : List UInt8) : Nat → Nat → Int → Nat → Nat × Int × Nat
  | 0, i, n, p => (i, n, p)
  | k + 1, i, n, p =>
    if i < l.length then
      if 48 ≤ byteAt l i ∧ byteAt l i ≤ 57 then rd l k (i + 1) (wd n (byteAt l i - 48)) p
      else if byteAt l i = 46 ∧ p = l.length then rd l k (i + 1) n i
      else (i, n, p)
    else (i, n, p)
/-- What decimal.readDigits answers: the number, the digits behind the point, and whether the string is a decimal. -/
def rdEnd (len : Nat) (r : Nat × Int × Nat) : Int × Int × Bool :=
  if r.1 < len ∨ r.2.2 = 0 then (0, 0, false)
  else if r.2.2 = len then (r.2.1, 0, true)
  else if (len : Int) - r.2.2 - 1 < 1 ∨ 6 < (len : Int) - r.2.2 - 1 then (0, 0, false)
  else (r.2.1, (len : Int) - r.2.2 - 1, true)
def rdAll (l : List UInt8) : Int × Int × Bool := rdEnd l.length (rd l l.length 0 0 l.length)

theorem byteAt_eq (s : ByteArray) (i : Nat) (hi : i < s.size) : ((s[i]'hi).toNat : Int) = byteAt s.data.toList i := by
  unfold byteAt
  rw [← Lib.getD_at s i hi]
theorem byteAt_range (l : List UInt8) (i : Nat) : 0 ≤ byteAt l i ∧ byteAt l i ≤ 255 := by
  unfold byteAt
  have := UInt8.toNat_lt (l.getD i 0)
  omega

theorem rd_digit {l : List UInt8} {N i p : Nat} {n : Int} (hN : l.length = N) (h : i < N) (h1 : 48 ≤ byteAt l i) (h2 : byteAt l i ≤ 57) :
    rd l (N - i) i n p = rd l (N - (i + 1)) (i + 1) (wd n (byteAt l i - 48)) p := by
  obtain ⟨k, hk⟩ : ∃ k, N - i = k + 1 := ⟨N - i - 1, by omega⟩
  have hk' : N - (i + 1) = k := by omega
  rw [hk, hk', rd, if_pos (by omega), if_pos ⟨h1, h2⟩]
theorem rd_point {l : List UInt8} {N i p : Nat} {n : Int} (hN : l.length = N) (h : i < N) (h1 : byteAt l i = 46) (h2 : p = N) :
    rd l (N - i) i n p = rd l (N - (i + 1)) (i + 1) n i := by
  obtain ⟨k, hk⟩ : ∃ k, N - i = k + 1 := ⟨N - i - 1, by omega⟩
  have hk' : N - (i + 1) = k := by omega
  rw [hk, hk', rd, if_pos (by omega), if_neg (by omega), if_pos ⟨h1, by omega⟩]
theorem rd_stop {l : List UInt8} {N i p : Nat} {n : Int} (hN : l.length = N) (h : i < N) (h1 : ¬ (48 ≤ byteAt l i ∧ byteAt l i ≤ 57)) (h2 : ¬ (byteAt l i = 46 ∧ p = N)) :
    rd l (N - i) i n p = (i, n, p) := by
  obtain ⟨k, hk⟩ : ∃ k, N - i = k + 1 := ⟨N - i - 1, by omega⟩
  rw [hk, rd, if_pos (by omega), if_neg h1, if_neg (by omega)]
theorem rd_done {l : List UInt8} {N i p : Nat} {n : Int} (h : N ≤ i) : rd l (N - i) i n p = (i, n, p) := by
  rw [show N - i = 0 by omega, rd]

set_option maxHeartbeats 1000000 in
theorem readDigits_any (s : ByteArray) (w : World) (hs : s.size ≤ 9223372036854775806) :
    Calls Tryz.prog 157 #[.string s] w fun e w' =>
      e = .returned (.tuple #[.int .i64 (rdAll s.data.toList).1, .int .i64 (rdAll s.data.toList).2.1, .bool (rdAll s.data.toList).2.2]) ∧ w = w' := by
  have hlen : s.data.toList.length = s.size := by rw [Lib.size_eq]
  obtain ⟨R, hR⟩ : ∃ R, R = rd s.data.toList s.size 0 0 s.size := ⟨_, rfl⟩
  have hall : Hid (rdAll s.data.toList = rdEnd s.size R) := by unfold Hid rdAll; rw [hlen, hR]
  have HL := Lib.hid hlen
  have HR := Lib.hid hR
  clear hlen hR
  go_enter Tryz.func157, Tryz.ntmps157
  go_wp2
  go_step3
  go_wp2
  go_step3
  go_upto_block 0 with fail
  go_cut [2, 5, 6] (fun vn vp vi wx => ∃ (i p : Nat) (n : Int), i ≤ s.size ∧ p ≤ s.size ∧ 0 ≤ n ∧ n ≤ 1152921504606846979 ∧ vn = .int .i64 n ∧ vp = .int .i64 p ∧ vi = .int .i64 i ∧ Hid (R = (i, n, p)) ∧ wx = w)
  case first =>
    go_wp2
    go_loop [2, 5, 6] (fun vn vp vi => ∃ (i p : Nat) (n : Int), i ≤ s.size ∧ p ≤ s.size ∧ 0 ≤ n ∧ n ≤ 1152921504606846979 ∧ vn = .int .i64 n ∧ vp = .int .i64 p ∧ vi = .int .i64 i ∧ Hid (R = rd s.data.toList (s.size - i) i n p)) (fun _ _ vi => s.size - (intOf vi).toNat)
    case atStart => exact ⟨0, s.size, 0, by omega, by omega, by omega, by omega, rfl, rfl, rfl, by unfold Hid; rw [HR.out]; rfl⟩
    case round =>
      obtain ⟨i, p, n, hi, hp, n0, n1, rfl, rfl, rfl, hrd⟩ := hrel
      by_cases hl : i < s.size
      · obtain ⟨c, hc⟩ : ∃ c, c = byteAt s.data.toList i := ⟨_, rfl⟩
        have hX : ∀ w, (Instr.index 9 (.string s) (.int .i64 (i : Int))).run Tryz.prog w = .ok (.int .u8 c) w := fun w => by
          rw [run_index_string w _ s .i64 _ Tryz.underlying9, dif_pos ⟨by omega, by omega⟩, hc, ← byteAt_eq s i hl]
          rfl
        have hr := byteAt_range s.data.toList i
        rw [← hc] at hr
        obtain ⟨r0, r1⟩ := hr
        have HC := Lib.hid hc
        clear hc
        by_cases c1 : 48 ≤ c
        · by_cases c2 : c ≤ 57
          · have HD : Hid (R = rd s.data.toList (s.size - (i + 1)) (i + 1) (wd n (c - 48)) p) := by
              unfold Hid; rw [hrd.out, rd_digit HL.out hl (by rw [← HC.out]; exact c1) (by rw [← HC.out]; exact c2), ← HC.out]
            have hw := wd_range (n := n) (d := c - 48) n0 (by omega) (by omega)
            have c1' : decide (48 ≤ c) = true := by simpa using c1
            have c2' : decide (c ≤ 57) = true := by simpa using c2
            go_wp2_with (go_at_call 176; refine (withDigit_any n (c - 48) _ n0 (by omega) (by omega)).mono ?_; rintro e w' ⟨rfl, rfl⟩)
            exact ⟨⟨i + 1, p, wd n (c - 48), by omega, hp, hw.1, hw.2, rfl, rfl, by congr 1, HD⟩, by simp [intOf]; omega⟩
          · have HD : Hid (R = (i, n, p)) := by
              unfold Hid; rw [hrd.out, rd_stop HL.out hl (by rw [← HC.out]; omega) (by rw [← HC.out]; omega)]
            have c1' : decide (48 ≤ c) = true := by simpa using c1
            have c2' : decide (c ≤ 57) = false := by simp; omega
            have c3' : (c == 46) = false := by rw [beq_eq_false_iff_ne]; omega
            go_wp2
            go_meet
            exact ⟨i, p, n, hi, hp, n0, n1, rfl, rfl, rfl, HD, rfl⟩
        · have c1' : decide (48 ≤ c) = false := by simp; omega
          by_cases c3 : c = 46
          · by_cases c4 : p = s.size
            · have HD : Hid (R = rd s.data.toList (s.size - (i + 1)) (i + 1) n i) := by
                unfold Hid; rw [hrd.out, rd_point HL.out hl (by rw [← HC.out]; exact c3) c4]
              subst c3
              subst c4
              go_wp2
              exact ⟨⟨i + 1, i, n, by omega, by omega, n0, n1, rfl, rfl, by congr 1, HD⟩, by simp [intOf]; omega⟩
            · have HD : Hid (R = (i, n, p)) := by
                unfold Hid; rw [hrd.out, rd_stop HL.out hl (by rw [← HC.out]; omega) (by rw [← HC.out]; omega)]
              have c4' : ((p : Int) == (s.size : Int)) = false := by rw [beq_eq_false_iff_ne]; omega
              subst c3
              go_wp2
              go_meet
              exact ⟨i, p, n, hi, hp, n0, n1, rfl, rfl, rfl, HD, rfl⟩
          · have HD : Hid (R = (i, n, p)) := by
              unfold Hid; rw [hrd.out, rd_stop HL.out hl (by rw [← HC.out]; omega) (by rw [← HC.out]; omega)]
            have c3' : (c == 46) = false := by rw [beq_eq_false_iff_ne]; omega
            go_wp2
            go_meet
            exact ⟨i, p, n, hi, hp, n0, n1, rfl, rfl, rfl, HD, rfl⟩
      · have HD : Hid (R = (i, n, p)) := by
          unfold Hid; rw [hrd.out, rd_done (by omega)]
        go_wp2
        go_meet
        exact ⟨i, p, n, hi, hp, n0, n1, rfl, rfl, rfl, HD, rfl⟩
  case rest =>
    obtain ⟨i, p, n, hi, hp, n0, n1, rfl, rfl, rfl, hR, rfl⟩ := hcut
    have hall2 : Hid (rdAll s.data.toList = rdEnd s.size (i, n, p)) := by unfold Hid; rw [hall.out, hR.out]
    clear hall hR HR HL
    by_cases d1 : i < s.size
    · have E : Hid (rdAll s.data.toList = (0, 0, false)) := by unfold Hid; rw [hall2.out]; unfold rdEnd; rw [if_pos (.inl d1)]
      go_wp2
      try rw [Exit.noGoto_ret]
      go_ret3
      exact ⟨by rw [E.out]; rfl, rfl⟩
    · by_cases d2 : p = 0
      · have E : Hid (rdAll s.data.toList = (0, 0, false)) := by unfold Hid; rw [hall2.out]; unfold rdEnd; rw [if_pos (.inr d2)]
        subst d2
        go_wp2
        try rw [Exit.noGoto_ret]
        go_ret3
        exact ⟨by rw [E.out]; rfl, rfl⟩
      · have d2' : ((p : Int) == 0) = false := by rw [beq_eq_false_iff_ne]; omega
        by_cases d3 : p = s.size
        · have E : Hid (rdAll s.data.toList = (n, 0, true)) := by unfold Hid; rw [hall2.out]; unfold rdEnd; rw [if_neg (by simp only; omega), if_pos d3]
          subst d3
          go_wp2
          try rw [Exit.noGoto_ret]
          go_ret3
          exact ⟨by rw [E.out]; rfl, rfl⟩
        · have d3' : ((p : Int) == (s.size : Int)) = false := by rw [beq_eq_false_iff_ne]; omega
          by_cases d4 : (s.size : Int) - p - 1 < 1
          · have E : Hid (rdAll s.data.toList = (0, 0, false)) := by unfold Hid; rw [hall2.out]; unfold rdEnd; rw [if_neg (by simp only; omega), if_neg d3, if_pos (.inl d4)]
            go_wp2
            try rw [Exit.noGoto_ret]
            go_ret3
            exact ⟨by rw [E.out]; rfl, rfl⟩
          · have d4' : decide ((s.size : Int) - p - 1 < 1) = false := by simpa using d4
            by_cases d5 : 6 < (s.size : Int) - p - 1
            · have E : Hid (rdAll s.data.toList = (0, 0, false)) := by unfold Hid; rw [hall2.out]; unfold rdEnd; rw [if_neg (by simp only; omega), if_neg d3, if_pos (.inr d5)]
              go_wp2
              try rw [Exit.noGoto_ret]
              go_ret3
              exact ⟨by rw [E.out]; rfl, rfl⟩
            · have d5' : decide (6 < (s.size : Int) - p - 1) = false := by simpa using d5
              have E : Hid (rdAll s.data.toList = (n, (s.size : Int) - p - 1, true)) := by unfold Hid; rw [hall2.out]; unfold rdEnd; rw [if_neg (by simp only; omega), if_neg d3, if_neg (by simp only; omega)]
              go_wp2
              try rw [Exit.noGoto_ret]
              go_ret3
              exact ⟨by rw [E.out]; rfl, rfl⟩
end Go.Proofs.YtbkpjhffmaldmaaGreatDoor.dec

namespace Go.Proofs.YtbkpjhffmaldmaaGreatDoor.dec
open Go.RowKit Go.Shelf

theorem rd_range (l : List UInt8) : ∀ (k i : Nat) (n : Int) (p : Nat), 0 ≤ n → n ≤ 1152921504606846979 → 0 ≤ (rd l k i n p).2.1 ∧ (rd l k i n p).2.1 ≤ 1152921504606846979
  | 0, _, _, _, h0, h1 => ⟨h0, h1⟩
  | k + 1, i, n, p, h0, h1 => by
    rw [rd]
    split
    · split
      · rename_i hd
        have hw := wd_range (n := n) (d := byteAt l i - 48) h0 (by omega) (by omega)
        exact rd_range l k (i + 1) _ p hw.1 hw.2
      · split
        · exact rd_range l k (i + 1) n i h0 h1
        · exact ⟨h0, h1⟩
    · exact ⟨h0, h1⟩
theorem rdAll_range (l : List UInt8) : 0 ≤ (rdAll l).1 ∧ (rdAll l).1 ≤ 1152921504606846979 ∧ 0 ≤ (rdAll l).2.1 ∧ (rdAll l).2.1 ≤ 6 := by
  have h := rd_range l l.length 0 0 l.length (by omega) (by omega)
  unfold rdAll rdEnd
  split
  · simp
  · split
    · exact ⟨h.1, h.2, by simp, by simp⟩
    · split
      · simp
      · exact ⟨h.1, h.2, by simp only; omega, by simp only; omega⟩

/-- The table decimal.powers. -/
def powTab : List Int := [1, 10, 100, 1000, 10000, 100000, 1000000]
theorem gPow : Tryz.prog.globalNamed "asof/decimal.powers" = some 1 := by kernel_rfl
theorem pow_range {a : Int} (h0 : 0 ≤ a) (h6 : a ≤ 6) : 1 ≤ powTab.getD (6 - a).toNat 0 ∧ powTab.getD (6 - a).toNat 0 ≤ 1000000 := by
  obtain h | h | h | h | h | h | h : a = 0 ∨ a = 1 ∨ a = 2 ∨ a = 3 ∨ a = 4 ∨ a = 5 ∨ a = 6 := by omega
  all_goals (subst h; decide)

/-- The millionths that a decimal's digits stand for. -/
def pmOf (l : List UInt8) : Int := (if Lib.hasPrefix l [45] then -(rdAll (Lib.trimPrefix l [45])).1 else (rdAll (Lib.trimPrefix l [45])).1) * powTab.getD (6 - (rdAll (Lib.trimPrefix l [45])).2.1).toNat 0
/-- What decimal.Parse answers: the number and the error. -/
def paX (l : List UInt8) : Int := if (rdAll (Lib.trimPrefix l [45])).2.2 && rg (pmOf l) then pmOf l else 0
def paE (l : List UInt8) : Int := if (rdAll (Lib.trimPrefix l [45])).2.2 then (if rg (pmOf l) then 0 else 2) else 3

theorem parse_core (s t : ByteArray) (neg ok : Bool) (n a P m X E : Int) (w : World)
    (CC : Hid (Calls Tryz.prog 156 #[.string s, .string ⟨#[45]⟩] w fun e w' => e = .returned (.tuple #[.string t, .bool neg]) ∧ w' = w))
    (CR : Hid (Calls Tryz.prog 157 #[.string t] w fun e w' => e = .returned (.tuple #[.int .i64 n, .int .i64 a, .bool ok]) ∧ w = w'))
    (n0 : 0 ≤ n) (n1 : n ≤ 1152921504606846979) (a0 : 0 ≤ a) (a6 : a ≤ 6) (P1 : 1 ≤ P) (P2 : P ≤ 1000000)
    (hc : w.cell? ⟨1, (6 - a).toNat, none⟩ = some (.int .i64 P))
    (hm : Hid (m = (if neg then -n else n) * P)) (hX : Hid (X = if ok && rg m then m else 0)) (hE : Hid (E = if ok then (if rg m then 0 else 2) else 3)) :
    Calls Tryz.prog 129 #[.string s] w fun e w' => e = .returned (.tuple #[.int .i64 X, .int .i64 E]) ∧ Below w.heap.size w w' := by
  cases ok
  · have eX : Hid (X = 0) := by unfold Hid; rw [hX.out]; rfl
    have eE : Hid (E = 3) := by unfold Hid; rw [hE.out]; rfl
    go_enter Tryz.func129, Tryz.ntmps129
    go_wp2_with (first
      | (go_at_call 156; refine CC.out.mono ?_; rintro e w' ⟨rfl, rfl⟩)
      | (go_at_call 157; refine CR.out.mono ?_; rintro e w' ⟨rfl, rfl⟩))
    go_ret2
    exact ⟨by rw [eX.out, eE.out]; rfl, b0 _⟩
  · cases neg
    · have em : Hid (n * P = m) := by unfold Hid; rw [hm.out]; rfl
      have im : In m := by rw [← em.out]; exact mul_in (by omega) (by omega) (by omega) (by omega)
      cases hr : rg m
      · have eX : Hid (X = 0) := by unfold Hid; rw [hX.out, hr]; rfl
        have eE : Hid (E = 2) := by unfold Hid; rw [hE.out, hr]; rfl
        go_enter Tryz.func129, Tryz.ntmps129
        go_wp2_with (first
          | (go_at_call 156; refine CC.out.mono ?_; rintro e w' ⟨rfl, rfl⟩)
          | (go_at_call 157; refine CR.out.mono ?_; rintro e w' ⟨rfl, rfl⟩))
        refine (mul_u n P _ (by omega) (by omega) (by omega) (by omega)).mono ?_
        rw [em.out]
        rintro e w1 ⟨rfl, k1⟩
        go_wp2_with fail
        refine (checked_any im _).mono ?_
        rw [hr]
        rintro e w2 ⟨rfl, k2⟩
        replace k2 := bnext k1 k2
        go_wp2_with fail
        go_ret2
        exact ⟨by rw [eX.out, eE.out]; rfl, k2⟩
      · have eX : Hid (X = m) := by unfold Hid; rw [hX.out, hr]; rfl
        have eE : Hid (E = 0) := by unfold Hid; rw [hE.out, hr]; rfl
        go_enter Tryz.func129, Tryz.ntmps129
        go_wp2_with (first
          | (go_at_call 156; refine CC.out.mono ?_; rintro e w' ⟨rfl, rfl⟩)
          | (go_at_call 157; refine CR.out.mono ?_; rintro e w' ⟨rfl, rfl⟩))
        refine (mul_u n P _ (by omega) (by omega) (by omega) (by omega)).mono ?_
        rw [em.out]
        rintro e w1 ⟨rfl, k1⟩
        go_wp2_with fail
        refine (checked_any im _).mono ?_
        rw [hr, kx_yes hr]
        rintro e w2 ⟨rfl, k2⟩
        replace k2 := bnext k1 k2
        go_wp2_with fail
        go_ret2
        exact ⟨by rw [eX.out, eE.out]; rfl, k2⟩
    · have em : Hid (-n * P = m) := by unfold Hid; rw [hm.out]; rfl
      have im : In m := by rw [← em.out]; exact mul_in (by omega) (by omega) (by omega) (by omega)
      cases hr : rg m
      · have eX : Hid (X = 0) := by unfold Hid; rw [hX.out, hr]; rfl
        have eE : Hid (E = 2) := by unfold Hid; rw [hE.out, hr]; rfl
        go_enter Tryz.func129, Tryz.ntmps129
        go_wp2_with (first
          | (go_at_call 156; refine CC.out.mono ?_; rintro e w' ⟨rfl, rfl⟩)
          | (go_at_call 157; refine CR.out.mono ?_; rintro e w' ⟨rfl, rfl⟩))
        refine (mul_u (-n) P _ (by omega) (by omega) (by omega) (by omega)).mono ?_
        rw [em.out]
        rintro e w1 ⟨rfl, k1⟩
        go_wp2_with fail
        refine (checked_any im _).mono ?_
        rw [hr]
        rintro e w2 ⟨rfl, k2⟩
        replace k2 := bnext k1 k2
        go_wp2_with fail
        go_ret2
        exact ⟨by rw [eX.out, eE.out]; rfl, k2⟩
      · have eX : Hid (X = m) := by unfold Hid; rw [hX.out, hr]; rfl
        have eE : Hid (E = 0) := by unfold Hid; rw [hE.out, hr]; rfl
        go_enter Tryz.func129, Tryz.ntmps129
        go_wp2_with (first
          | (go_at_call 156; refine CC.out.mono ?_; rintro e w' ⟨rfl, rfl⟩)
          | (go_at_call 157; refine CR.out.mono ?_; rintro e w' ⟨rfl, rfl⟩))
        refine (mul_u (-n) P _ (by omega) (by omega) (by omega) (by omega)).mono ?_
        rw [em.out]
        rintro e w1 ⟨rfl, k1⟩
        go_wp2_with fail
        refine (checked_any im _).mono ?_
        rw [hr, kx_yes hr]
        rintro e w2 ⟨rfl, k2⟩
        replace k2 := bnext k1 k2
        go_wp2_with fail
        go_ret2
        exact ⟨by rw [eX.out, eE.out]; rfl, k2⟩

theorem parse_any (s : ByteArray) (w : World) (hs : s.size ≤ 9223372036854775806) (hp : Lib.TabIs Tryz.prog w "asof/decimal.powers" .i64 powTab) :
    Calls Tryz.prog 129 #[.string s] w fun e w' => e = .returned (.tuple #[.int .i64 (paX s.data.toList), .int .i64 (paE s.data.toList)]) ∧ Below w.heap.size w w' := by
  obtain ⟨t, ht⟩ : ∃ t : ByteArray, t = ⟨(Lib.trimPrefix s.data.toList (⟨#[45]⟩ : ByteArray).data.toList).toArray⟩ := ⟨_, rfl⟩
  have htl : t.data.toList = Lib.trimPrefix s.data.toList [45] := by rw [ht]
  have hts : t.size ≤ 9223372036854775806 := by
    have h1 : t.size = t.data.toList.length := (Lib.size_eq t)
    have h2 := Lib.trimPrefix_le s.data.toList [45]
    have h3 : s.size = s.data.toList.length := (Lib.size_eq s)
    rw [htl] at h1
    omega
  have CR := readDigits_any t w hts
  rw [htl] at CR
  have CC := Tryz.strings_CutPrefix s ⟨#[45]⟩ w
  rw [← ht] at CC
  obtain ⟨n0, n1, a0, a6⟩ := rdAll_range (Lib.trimPrefix s.data.toList [45])
  have hc := hp.cell gPow (6 - (rdAll (Lib.trimPrefix s.data.toList [45])).2.1).toNat (by show _ < 7; omega)
  have hPr := pow_range a0 a6
  exact parse_core s t _ _ _ _ _ _ _ w CC CR n0 n1 a0 a6 hPr.1 hPr.2 hc (m := pmOf s.data.toList) rfl rfl rfl
end Go.Proofs.YtbkpjhffmaldmaaGreatDoor.dec

namespace Go.Proofs.YtbkpjhffmaldmaaGreatDoor.dec
open Go.RowKit Go.Shelf Go.Sort Go.Lib

theorem holds_zero0 (w : World) (T : TypeId) (nd : Nat) (hs : nd ≤ 24) : Holds (fun (b : UInt8) => Value.int .u8 (b.toNat : Int)) (w.alloc (.cells Lib.zeros24 T)) w.heap.size 0 (Array.replicate nd (0 : UInt8)) := fun j hj => by
  have hj' : j < nd := by simpa using hj
  refine ⟨?_, World.frozen?_alloc_new _ _ _ _⟩
  rw [World.cell?_alloc_new, Lib.zeros24_at _ (by omega), getElem!_pos _ j hj]
  simp
theorem below_putRow (w : World) (o : Obj) (dk : Array UInt8) (k : Nat) : Below w.heap.size w ((putRow (fun (b : UInt8) => Value.int .u8 (b.toNat : Int)) (w.alloc o) w.heap.size 0 dk).drewN k) := by
  rw [alloc_eq_grow]
  obtain ⟨os', _, e⟩ := putRow_grow_new (fun (b : UInt8) => Value.int .u8 (b.toNat : Int)) w #[o] w.heap.size 0 dk (Nat.le_refl _)
  rw [e]
  have h : Below w.heap.size w (grow w os') := by
    exact below_regrown w w.drawn os'
  exact below_drewN' h k

end Go.Proofs.YtbkpjhffmaldmaaGreatDoor.dec

namespace Go.Proofs.YtbkpjhffmaldmaaGreatDoor.dec
open Go.RowKit Go.Shelf Go.Sort Go.Lib

/-- What decimal.Format answers. -/
def foX (x : Int) : List UInt8 := (if x < 0 then [45] else []) ++ Lib.decDigits (x.natAbs / 1000000) ++ [46] ++ (Lib.decDigits (1000000 + x.natAbs % 1000000)).drop 1

theorem dig_len (u : Nat) (h : u < 18446744073709551616) : 1 ≤ (Lib.decDigits u).length ∧ (Lib.decDigits u).length ≤ 20 := by
  rw [Lib.decDigits_length]
  refine ⟨Lib.nDigits_pos u, ?_⟩
  by_cases hu : 1 ≤ u
  · have := Lib.numDigits_eq u hu h; split at this <;> omega
  · rw [Lib.nDigits_small (by omega)]; decide
theorem slice_one (l : List UInt8) (h : 1 ≤ l.length) (W : World) : (Instr.slice 9 (.string ⟨l.toArray⟩) (some (.int .i64 1)) none none).run Tryz.prog W = .ok (.string ⟨(l.drop 1).toArray⟩) W := by
  have e : (ByteArray.mk l.toArray).size = l.length := by show l.toArray.size = _; simp
  rw [run_slice_string_from_if W 9 ⟨l.toArray⟩ .i64 _ Tryz.underlying9, if_pos ⟨by omega, by rw [e]; omega⟩]
  congr 2
  apply ByteArray.ext
  apply Array.ext'
  rw [Lib.extract_data]
  simp only [e]
  show ((l.toArray.toList.drop 1).take (l.length - 1)) = _
  rw [List.take_of_length_le (by simp)]
theorem add_lists (x y : List UInt8) (hx : x.length ≤ 100) (hy : y.length ≤ 100) (W : World) : (Op.stringOp .add ⟨x.toArray⟩ ⟨y.toArray⟩).run Tryz.prog W = .ok (.string ⟨(x ++ y).toArray⟩) W := run_string_add_lists W x y (by omega) (by omega)

theorem abs_wrap {x : Int} (h1 : -9223372036854775808 ≤ x) (h2 : x ≤ 9223372036854775807) :
    (x < 0 → IntKind.u64.wrap (-IntKind.u64.wrap x) = (x.natAbs : Int)) ∧ (0 ≤ x → IntKind.u64.wrap x = (x.natAbs : Int)) := by
  rw [IntKind.wrap_u64, IntKind.wrap_u64]
  constructor
  · intro h; omega
  · intro h; omega

theorem tab_stays {w w' : World} {n : String} {k : IntKind} {zs : List Int} (h : Lib.TabIs Tryz.prog w n k zs) (hb : Below w.heap.size w w') : Lib.TabIs Tryz.prog w' n k zs := by
  unfold Lib.TabIs at *
  cases hg : Tryz.prog.globalNamed n with
  | none => unfold World.var? at h; simp [hg] at h
  | some g => exact Go.Joins.var_stays hg h hb (Nat.le_refl _)

end Go.Proofs.YtbkpjhffmaldmaaGreatDoor.dec
namespace Go.Proofs.YtbkpjhffmaldmaaGreatDoor
open dec

/-- The number that digits form behind a. -/
def dval (a : Nat) (l : List UInt8) : Nat := l.foldl (fun a c => a * 10 + (c.toNat - 48)) a
def isD (c : UInt8) : Bool := decide (48 ≤ c.toNat) && decide (c.toNat ≤ 57)
theorem isD_iff (c : UInt8) : isD c = true ↔ 48 ≤ c.toNat ∧ c.toNat ≤ 57 := by unfold isD; rw [Bool.and_eq_true, decide_eq_true_eq, decide_eq_true_eq]
theorem dval_cons (a : Nat) (c : UInt8) (l : List UInt8) : dval a (c :: l) = dval (a * 10 + (c.toNat - 48)) l := by unfold dval; rw [List.foldl_cons]
theorem dval_append (a : Nat) (l r : List UInt8) : dval a (l ++ r) = dval (dval a l) r := by unfold dval; rw [List.foldl_append]
theorem dval_ge : ∀ (l : List UInt8) (a : Nat), a ≤ dval a l
  | [], a => Nat.le_refl a
  | c :: l, a => by
    have := dval_ge l (a * 10 + (c.toNat - 48))
    rw [dval_cons]
    omega
theorem dig_nat {d : Nat} (h : d < 10) : (UInt8.ofNat (48 + d)).toNat = 48 + d := by
  rw [UInt8.toNat_ofNat']
  omega
theorem dec_dval (u : Nat) : dval 0 (Lib.decDigits u) = u := by
  induction u using Nat.strongRecOn with
  | _ u ih =>
    by_cases h : u < 10
    · rw [Lib.decDigits, dif_pos h, dval_cons, dig_nat h]
      show 0 * 10 + (48 + u - 48) = u
      omega
    · rw [Lib.decDigits, dif_neg h, dval_append, ih (u / 10) (by omega), dval_cons, dig_nat (by omega)]
      show u / 10 * 10 + (48 + u % 10 - 48) = u
      omega
theorem dec_isD (u : Nat) : ∀ c ∈ Lib.decDigits u, isD c = true := by
  induction u using Nat.strongRecOn with
  | _ u ih =>
    intro c hc
    by_cases h : u < 10
    · rw [Lib.decDigits, dif_pos h, List.mem_singleton] at hc
      subst hc
      rw [isD_iff, dig_nat h]
      omega
    · rw [Lib.decDigits, dif_neg h, List.mem_append, List.mem_singleton] at hc
      rcases hc with hc | hc
      · exact ih (u / 10) (by omega) c hc
      · subst hc
        rw [isD_iff, dig_nat (by omega)]
        omega
theorem dec_cons (u : Nat) : ∃ c r, Lib.decDigits u = c :: r := by
  have h : (Lib.decDigits u).length = Lib.nDigits u := Lib.decDigits_length u
  have := Lib.nDigits_pos u
  cases hd : Lib.decDigits u with
  | nil => rw [hd] at h; simp at h; omega
  | cons c r => exact ⟨c, r, rfl⟩
theorem dg_nat (u j : Nat) : (Lib.dg u j).toNat = 48 + u / 10 ^ j % 10 := dig_nat (by omega)
theorem dg_isD (u j : Nat) : isD (Lib.dg u j) = true := by rw [isD_iff, dg_nat]; omega

/-- The six digits behind the point. -/
def frac (u : Nat) : List UInt8 := [Lib.dg u 5, Lib.dg u 4, Lib.dg u 3, Lib.dg u 2, Lib.dg u 1, Lib.dg u 0]
theorem frac_eq {r : Nat} (h : r < 1000000) : (Lib.decDigits (1000000 + r)).drop 1 = frac (1000000 + r) := by
  have hn : Lib.nDigits (1000000 + r) = 7 := Lib.nDigits_unique 6 _ (by omega) (by omega)
  rw [Lib.decDigits_eq, hn]
  rfl
theorem dg_mod (u j : Nat) (hj : j < 6) : Lib.dg (1000000 + u % 1000000) j = Lib.dg u j := by
  unfold Lib.dg
  congr 2
  obtain rfl | rfl | rfl | rfl | rfl | rfl : j = 0 ∨ j = 1 ∨ j = 2 ∨ j = 3 ∨ j = 4 ∨ j = 5 := by omega
  all_goals omega
theorem frac_mod (u : Nat) : frac (1000000 + u % 1000000) = frac u := by
  unfold frac
  rw [dg_mod u 5 (by omega), dg_mod u 4 (by omega), dg_mod u 3 (by omega), dg_mod u 2 (by omega), dg_mod u 1 (by omega), dg_mod u 0 (by omega)]
theorem frac_dval (u q : Nat) : dval q (frac u) = q * 1000000 + u % 1000000 := by
  unfold frac dval
  simp only [List.foldl_cons, List.foldl_nil, dg_nat]
  have h5 : (10 : Nat) ^ 5 = 100000 := rfl
  have h4 : (10 : Nat) ^ 4 = 10000 := rfl
  have h3 : (10 : Nat) ^ 3 = 1000 := rfl
  have h2 : (10 : Nat) ^ 2 = 100 := rfl
  have h1 : (10 : Nat) ^ 1 = 10 := rfl
  have h0 : (10 : Nat) ^ 0 = 1 := rfl
  rw [h5, h4, h3, h2, h1, h0]
  omega
theorem frac_isD (u : Nat) : ∀ c ∈ frac u, isD c = true := by
  intro c hc
  simp only [frac, List.mem_cons, List.not_mem_nil, or_false] at hc
  rcases hc with h | h | h | h | h | h <;> (subst h; exact dg_isD _ _)
theorem frac_len (u : Nat) : (frac u).length = 6 := rfl

/-- What stands behind the sign of a printed decimal. -/
def bod (u : Nat) : List UInt8 := Lib.decDigits (u / 1000000) ++ 46 :: frac u
theorem fo_eq (x : Int) : foX x = (if x < 0 then [45] else []) ++ bod x.natAbs := by
  unfold foX bod
  rw [frac_eq (Nat.mod_lt _ (by decide)), frac_mod]
  simp only [List.append_assoc, List.cons_append, List.nil_append]

/-- strconv.Atoi of digits. -/
theorem uint_digits : ∀ (l : List UInt8) (a : Nat), (∀ c ∈ l, isD c = true) → dval a l < 18446744073709551616 → Lib.parseUint10 a l = .ok (dval a l)
  | [], a, _, _ => rfl
  | c :: r, a, h, hv => by
    have h1 := (isD_iff c).1 (h c (List.mem_cons_self ..))
    rw [dval_cons] at hv
    have h2 := dval_ge r (a * 10 + (c.toNat - 48))
    rw [Lib.parseUint10, if_pos h1, if_neg (by omega), if_neg (by omega), dval_cons]
    exact uint_digits r _ (fun d hd => h d (List.mem_cons_of_mem _ hd)) hv
theorem mag_dec {u : Nat} (h : u < 18446744073709551616) : Lib.parseMag (Lib.decDigits u) = .ok u := by
  obtain ⟨c, r, hcr⟩ := dec_cons u
  unfold Lib.parseMag
  rw [if_neg (by rw [hcr]; simp), uint_digits _ 0 (dec_isD u) (by rw [dec_dval]; exact h), dec_dval]
/-- What Atoi answers, whatever the error. -/
def atoiN (l : List UInt8) : Int :=
  match Lib.atoiAll l with
  | .ok v => v
  | Lib.NumEnd.syntax => 0
  | .range => Lib.atoiSat l
theorem atoiN_bounds (l : List UInt8) : -9223372036854775808 ≤ atoiN l ∧ atoiN l ≤ 9223372036854775807 := by
  unfold atoiN
  rcases h : Lib.atoiAll l with v | _ | _
  · exact Lib.atoiAll_bounds h
  · simp
  · exact Lib.atoiSat_bounds l
theorem atoi_back {n : Int} (h1 : -9223372036854775808 ≤ n) (h2 : n ≤ 9223372036854775807) : atoiN (Lib.itoa n) = n := by
  unfold atoiN Lib.itoa
  by_cases hn : n < 0
  · rw [if_pos hn, Lib.atoiAll_minus, mag_dec (by omega)]
    simp only [Lib.signed]
    rw [if_neg (by omega)]
    simp only
    omega
  · rw [if_neg hn]
    obtain ⟨c, r, hcr⟩ := dec_cons n.toNat
    have hc := (isD_iff c).1 (dec_isD n.toNat c (by rw [hcr]; exact List.mem_cons_self ..))
    have hm := mag_dec (u := n.toNat) (by omega)
    rw [hcr] at hm ⊢
    rw [Lib.atoiAll_plain c r (by omega) (by omega), hm]
    simp only [Lib.signless]
    rw [if_neg (by omega)]
    simp only
    omega

/-! decimal.Parse of what decimal.Format printed. -/
theorem byte_of_drop {l r : List UInt8} {i : Nat} {c : UInt8} (h : l.drop i = c :: r) : i < l.length ∧ byteAt l i = (c.toNat : Int) ∧ l.drop (i + 1) = r := by
  have hi : i < l.length := by
    rcases Nat.lt_or_ge i l.length with h0 | h0
    · exact h0
    · rw [List.drop_eq_nil_of_le h0] at h; cases h
  rw [List.drop_eq_getElem_cons hi] at h
  injection h with h1 h2
  refine ⟨hi, ?_, h2⟩
  unfold byteAt
  rw [List.getD_eq_getElem?_getD, List.getElem?_eq_getElem hi, h1]
  rfl
theorem rd_digits (l : List UInt8) : ∀ (ds r : List UInt8) (k i a p : Nat), l.drop i = ds ++ r → (∀ c ∈ ds, isD c = true) → dval a ds ≤ 1152921504606846976 →
    dec.rd l (k + ds.length) i (a : Int) p = dec.rd l k (i + ds.length) ((dval a ds : Nat) : Int) p
  | [], r, k, i, a, p, _, _, _ => rfl
  | c :: ds, r, k, i, a, p, h, hd, hv => by
    obtain ⟨hi, hb, hr⟩ := byte_of_drop h
    have hc := (isD_iff c).1 (hd c (List.mem_cons_self ..))
    rw [dval_cons] at hv
    have hg := dval_ge ds (a * 10 + (c.toNat - 48))
    have hw : wd (a : Int) (byteAt l i - 48) = ((a * 10 + (c.toNat - 48) : Nat) : Int) := by
      unfold wd
      rw [if_neg (by omega), hb]
      omega
    rw [List.length_cons, ← Nat.add_assoc, dec.rd, if_pos hi, if_pos (by rw [hb]; omega), hw, rd_digits l ds r k (i + 1) _ p hr (fun d hd' => hd d (List.mem_cons_of_mem _ hd')) hv, dval_cons, Nat.add_assoc, Nat.add_comm 1]
theorem rdAll_bod {u : Nat} (hu : u ≤ 1152921504606846976) : rdAll (bod u) = ((u : Int), 6, true) := by
  obtain ⟨D, hD⟩ : ∃ D, D = Lib.decDigits (u / 1000000) := ⟨_, rfl⟩
  have hlen : (bod u).length = D.length + 7 := by unfold bod; rw [← hD]; simp [frac_len]
  have hpos : 1 ≤ D.length := by rw [hD, Lib.decDigits_length]; exact Lib.nDigits_pos _
  have hb : bod u = D ++ 46 :: frac u := by rw [hD]; rfl
  have hv : dval 0 D = u / 1000000 := by rw [hD]; exact dec_dval _
  have hf : dval (u / 1000000) (frac u) = u := by rw [frac_dval]; omega
  unfold rdAll
  have s1 := rd_digits (bod u) D (46 :: frac u) 7 0 0 (bod u).length (by rw [hb]; rfl) (by rw [hD]; exact dec_isD _) (by rw [hv]; omega)
  rw [hv, Nat.zero_add] at s1
  have hdr : (bod u).drop D.length = 46 :: frac u := by rw [hb, List.drop_left]
  obtain ⟨h1, h2, h3⟩ := byte_of_drop hdr
  have e46 : byteAt (bod u) D.length = 46 := by rw [h2]; rfl
  have s2 : dec.rd (bod u) 7 D.length ((u / 1000000 : Nat) : Int) (bod u).length = dec.rd (bod u) 6 (D.length + 1) ((u / 1000000 : Nat) : Int) D.length := by
    rw [show 7 = 6 + 1 from rfl, dec.rd, if_pos h1, if_neg (by omega), if_pos ⟨e46, rfl⟩]
  have s3 := rd_digits (bod u) (frac u) [] 0 (D.length + 1) (u / 1000000) D.length (by rw [h3, List.append_nil]) (frac_isD u) (by rw [hf]; exact hu)
  rw [hf, frac_len, Nat.zero_add] at s3
  have s4 : dec.rd (bod u) (bod u).length 0 0 (bod u).length = (D.length + 7, (u : Int), D.length) := by
    rw [show dec.rd (bod u) (bod u).length 0 0 (bod u).length = dec.rd (bod u) (7 + D.length) 0 ((0 : Nat) : Int) (bod u).length by rw [hlen, Nat.add_comm]; rfl, s1, s2, s3]
    rfl
  rw [s4]
  unfold rdEnd
  simp only
  rw [hlen, if_neg (by omega), if_neg (by omega), if_neg (by omega)]
  congr 2
  omega
theorem bod_cons (u : Nat) : ∃ c r, bod u = c :: r ∧ isD c = true := by
  obtain ⟨c, r, h⟩ := dec_cons (u / 1000000)
  exact ⟨c, r ++ 46 :: frac u, by unfold bod; rw [h]; rfl, dec_isD _ c (by rw [h]; exact List.mem_cons_self ..)⟩
theorem pre_minus (l : List UInt8) : Lib.hasPrefix (45 :: l) [45] = true ∧ Lib.trimPrefix (45 :: l) [45] = l := by
  constructor
  · simp [Lib.hasPrefix, List.isPrefixOf]
  · simp [Lib.trimPrefix, Lib.hasPrefix, List.isPrefixOf]
theorem pre_other {c : UInt8} (h : c ≠ 45) (l : List UInt8) : Lib.hasPrefix (c :: l) [45] = false ∧ Lib.trimPrefix (c :: l) [45] = c :: l := by
  have e : ((45 : UInt8) == c) = false := by rw [beq_eq_false_iff_ne]; exact fun h' => h h'.symm
  have h1 : Lib.hasPrefix (c :: l) [45] = false := by simp [Lib.hasPrefix, List.isPrefixOf, e]
  exact ⟨h1, by unfold Lib.trimPrefix; rw [h1]; rfl⟩
theorem ne_of_toNat {c : UInt8} {n : Nat} (hn : n < 256) (h : c.toNat ≠ n) : c ≠ UInt8.ofNat n := by
  intro e
  subst e
  apply h
  rw [UInt8.toNat_ofNat']
  omega
theorem pa_fo {x : Int} (h1 : -1152921504606846976 ≤ x) (h2 : x ≤ 1152921504606846976) : paX (foX x) = x ∧ paE (foX x) = 0 := by
  have hr := (rg_iff x).2 ⟨h1, h2⟩
  have hall := rdAll_bod (u := x.natAbs) (by omega)
  have hpm : Lib.trimPrefix (foX x) [45] = bod x.natAbs ∧ pmOf (foX x) = x := by
    rw [fo_eq]
    by_cases hx : x < 0
    · rw [if_pos hx, List.singleton_append]
      obtain ⟨p1, p2⟩ := pre_minus (bod x.natAbs)
      refine ⟨p2, ?_⟩
      unfold pmOf
      rw [p1, p2, hall]
      simp [powTab]
      omega
    · rw [if_neg hx, List.nil_append]
      obtain ⟨c, r, hcr, hc⟩ := bod_cons x.natAbs
      rw [isD_iff] at hc
      have hne : c ≠ 45 := ne_of_toNat (n := 45) (by decide) (by omega)
      rw [hcr]
      obtain ⟨p1, p2⟩ := pre_other hne r
      refine ⟨p2, ?_⟩
      unfold pmOf
      rw [p1, p2, ← hcr, hall]
      simp [powTab]
      omega
  unfold paX paE
  rw [hpm.1, hpm.2, hall, hr]
  exact ⟨rfl, rfl⟩
end Go.Proofs.YtbkpjhffmaldmaaGreatDoor

namespace Go.Proofs.YtbkpjhffmaldmaaGreatDoor
open dec

/-- How many digits a string begins with. -/
def dgn : List UInt8 → Nat
  | [] => 0
  | c :: r => if isD c then dgn r + 1 else 0
theorem dgn_digits (c : UInt8) (hc : isD c = false) (r : List UInt8) : ∀ (ds : List UInt8), (∀ d ∈ ds, isD d = true) → dgn (ds ++ c :: r) = ds.length
  | [], _ => by simp [dgn, hc]
  | d :: ds, h => by
    rw [List.cons_append, dgn, if_pos (h d (List.mem_cons_self ..)), dgn_digits c hc r ds (fun x hx => h x (List.mem_cons_of_mem _ hx)), List.length_cons]
theorem dgn_all : ∀ (ds : List UInt8), (∀ d ∈ ds, isD d = true) → dgn ds = ds.length
  | [], _ => rfl
  | d :: ds, h => by
    rw [dgn, if_pos (h d (List.mem_cons_self ..)), dgn_all ds (fun x hx => h x (List.mem_cons_of_mem _ hx)), List.length_cons]
theorem dgn_le : ∀ (l : List UInt8), dgn l ≤ l.length
  | [] => Nat.le_refl _
  | c :: r => by
    have := dgn_le r
    rw [dgn, List.length_cons]
    split <;> omega
/-- The place behind a sign. -/
def atP (l : List UInt8) : Nat := if l.head? = some 45 then 1 else 0
/-- asofref02.Formed. -/
def formP (l : List UInt8) : Bool :=
  if dgn (l.drop (atP l)) = 0 then false
  else if atP l + dgn (l.drop (atP l)) = l.length then true
  else decide (l.getD (atP l + dgn (l.drop (atP l))) 0 = 46) && decide (1 ≤ dgn (l.drop (atP l + dgn (l.drop (atP l)) + 1))) && decide (dgn (l.drop (atP l + dgn (l.drop (atP l)) + 1)) ≤ 6)
    && decide (atP l + dgn (l.drop (atP l)) + 1 + dgn (l.drop (atP l + dgn (l.drop (atP l)) + 1)) = l.length)
/-- One digit more. -/
def sat (x d : Nat) : Nat := min (10 * min x 115292150460684698 + d) 1152921504606846977
theorem sat_le (x d : Nat) : sat x d ≤ 1152921504606846977 := by unfold sat; omega
theorem sat_eq {x d : Nat} (h : 10 * x + d ≤ 1152921504606846976) : sat x d = 10 * x + d := by unfold sat; omega
def stp (q : Nat × Int) (c : UInt8) : Nat × Int :=
  let b := if c = 46 then 0 else q.2
  if isD c then (sat q.1 (c.toNat - 48), if 0 ≤ b then b + 1 else b) else (q.1, b)
def scl : Nat → Nat → Nat
  | 0, x => x
  | k + 1, x => scl k (sat x 0)
theorem scl_le : ∀ (k x : Nat), x ≤ 1152921504606846977 → scl k x ≤ 1152921504606846977
  | 0, _, h => h
  | k + 1, x, _ => scl_le k _ (sat_le x 0)
def rpEnd (l : List UInt8) (y : Nat) : Int × Int := if 1152921504606846976 < y then (0, 2) else (if l.head? = some 45 then -(y : Int) else y, 0)
/-- asofref02.Parse. -/
def rpP (l : List UInt8) : Int × Int :=
  if formP l then rpEnd l (scl (6 - (max (l.foldl stp (0, -1)).2 0).toNat) (l.foldl stp (0, -1)).1) else (0, 3)

theorem stp_digits : ∀ (ds : List UInt8) (x : Nat) (b : Int), (∀ d ∈ ds, isD d = true) → dval x ds ≤ 1152921504606846976 → ds.foldl stp (x, b) = (dval x ds, if 0 ≤ b then b + ds.length else b)
  | [], x, b, _, _ => by simp [dval]
  | c :: ds, x, b, h, hv => by
    have hc := h c (List.mem_cons_self ..)
    have hc2 := (isD_iff c).1 hc
    have hg := dval_ge ds (x * 10 + (c.toNat - 48))
    rw [dval_cons] at hv
    have e46 : c ≠ 46 := ne_of_toNat (n := 46) (by decide) (by omega)
    have hs : stp (x, b) c = (x * 10 + (c.toNat - 48), if 0 ≤ b then b + 1 else b) := by
      unfold stp
      simp only [if_neg e46, hc, if_true]
      rw [sat_eq (by omega)]
      congr 1
      omega
    rw [List.foldl_cons, hs, stp_digits ds _ _ (fun d hd => h d (List.mem_cons_of_mem _ hd)) hv, dval_cons, List.length_cons]
    congr 1
    by_cases hb : 0 ≤ b
    · rw [if_pos hb, if_pos (by omega), if_pos hb]; omega
    · rw [if_neg hb, if_neg hb, if_neg hb]
theorem stp_bod {u : Nat} (hu : u ≤ 1152921504606846976) : (bod u).foldl stp (0, -1) = (u, 6) := by
  have hf : dval (u / 1000000) (frac u) = u := by rw [frac_dval]; omega
  unfold bod
  rw [List.foldl_append, stp_digits _ 0 (-1) (dec_isD _) (by rw [dec_dval]; omega), dec_dval, if_neg (by omega), List.foldl_cons,
    show stp (u / 1000000, -1) 46 = (u / 1000000, 0) from rfl, stp_digits _ _ 0 (frac_isD u) (by rw [hf]; exact hu), hf, frac_len]
  rfl
theorem dgn_bod (u : Nat) : dgn (bod u) = (Lib.decDigits (u / 1000000)).length := dgn_digits 46 rfl _ _ (dec_isD _)
theorem form_fo (x : Int) : formP (foX x) = true := by
  obtain ⟨u, hu⟩ : ∃ u, u = x.natAbs := ⟨_, rfl⟩
  have hpos : 1 ≤ (Lib.decDigits (u / 1000000)).length := by rw [Lib.decDigits_length]; exact Lib.nDigits_pos _
  have hlen : (bod u).length = (Lib.decDigits (u / 1000000)).length + 7 := by unfold bod; simp [frac_len]
  have h46 : (bod u).drop (Lib.decDigits (u / 1000000)).length = 46 :: frac u := by unfold bod; rw [List.drop_left]
  have h7 : (bod u).drop ((Lib.decDigits (u / 1000000)).length + 1) = frac u := by rw [← List.drop_drop, h46]; rfl
  have hg : (bod u).getD (Lib.decDigits (u / 1000000)).length 0 = 46 := by
    have := (byte_of_drop h46).1
    rw [List.drop_eq_getElem_cons this] at h46
    injection h46 with h1 _
    rw [List.getD_eq_getElem?_getD, List.getElem?_eq_getElem this, h1]
    rfl
  have hfr : dgn (frac u) = 6 := dgn_all _ (frac_isD u)
  have hdb := dgn_bod u
  obtain ⟨D, hD⟩ : ∃ D, D = (Lib.decDigits (u / 1000000)).length := ⟨_, rfl⟩
  rw [← hD] at hdb hg h7 h46 hlen hpos
  rw [fo_eq, ← hu]
  by_cases hx : x < 0
  · rw [if_pos hx, List.singleton_append]
    have ha : atP (45 :: bod u) = 1 := rfl
    have hd1 : (45 :: bod u).drop 1 = bod u := rfl
    have hd2 : (45 :: bod u).drop (1 + D + 1) = frac u := by rw [show 1 + D + 1 = (D + 1) + 1 by omega, List.drop_succ_cons]; exact h7
    have hg2 : (45 :: bod u).getD (1 + D) 0 = 46 := by rw [Nat.add_comm, List.getD_cons_succ]; exact hg
    unfold formP
    rw [ha, hd1, hdb, hd2, hfr, hg2, if_neg (by omega), List.length_cons, hlen, if_neg (by omega)]
    simp
    omega
  · rw [if_neg hx, List.nil_append]
    obtain ⟨c, r, hcr, hc⟩ := bod_cons u
    rw [isD_iff] at hc
    have hne : c ≠ 45 := ne_of_toNat (n := 45) (by decide) (by omega)
    have ha : atP (bod u) = 0 := by
      unfold atP
      rw [hcr, if_neg (by simpa using hne)]
    unfold formP
    rw [ha, List.drop_zero, hdb, Nat.zero_add, h7, hfr, hg, if_neg (by omega), hlen, if_neg (by omega)]
    simp
theorem rp_fo {x : Int} (h1 : -1152921504606846976 ≤ x) (h2 : x ≤ 1152921504606846976) : rpP (foX x) = (x, 0) := by
  obtain ⟨u, hu⟩ : ∃ u, u = x.natAbs := ⟨_, rfl⟩
  have hs := stp_bod (u := u) (by omega)
  unfold rpP
  rw [if_pos (form_fo x), fo_eq, ← hu]
  by_cases hx : x < 0
  · rw [if_pos hx, List.singleton_append, List.foldl_cons, show stp (0, -1) 45 = (0, -1) from rfl, hs]
    rw [show scl (6 - (max ((u, (6 : Int)) : Nat × Int).2 0).toNat) ((u, (6 : Int)) : Nat × Int).1 = u from rfl]
    unfold rpEnd
    rw [if_neg (by omega), List.head?_cons, if_pos rfl]
    congr 1
    omega
  · rw [if_neg hx, List.nil_append, hs]
    obtain ⟨c, r, hcr, hc⟩ := bod_cons u
    rw [isD_iff] at hc
    have hne : c ≠ 45 := ne_of_toNat (n := 45) (by decide) (by omega)
    rw [show scl (6 - (max ((u, (6 : Int)) : Nat × Int).2 0).toNat) ((u, (6 : Int)) : Nat × Int).1 = u from rfl]
    unfold rpEnd
    rw [if_neg (by omega), hcr, List.head?_cons, if_neg (by simpa using hne)]
    congr 1
    omega

/-- asofref05.whole: the number, or none. -/
def whl : List UInt8 → Nat → Option Nat
  | [], a => some a
  | c :: r, a => if isD c = true ∧ a ≤ 115292150460684697 then whl r (10 * a + (c.toNat - 48)) else none
theorem whl_le : ∀ (l : List UInt8) (a b : Nat), a ≤ 1152921504606846979 → whl l a = some b → b ≤ 1152921504606846979
  | [], a, b, h, e => by rw [whl] at e; injection e with e; omega
  | c :: r, a, b, h, e => by
    rw [whl] at e
    split at e
    · rename_i hc
      have := (isD_iff c).1 hc.1
      exact whl_le r _ b (by omega) e
    · cases e
theorem whl_digits : ∀ (l : List UInt8) (a : Nat), (∀ d ∈ l, isD d = true) → dval a l ≤ 1152921504606846976 → whl l a = some (dval a l)
  | [], a, _, _ => rfl
  | c :: r, a, h, hv => by
    rw [dval_cons] at hv
    have hg := dval_ge r (a * 10 + (c.toNat - 48))
    rw [whl, if_pos ⟨h c (List.mem_cons_self ..), by omega⟩, Nat.mul_comm, whl_digits r _ (fun d hd => h d (List.mem_cons_of_mem _ hd)) hv, dval_cons]
end Go.Proofs.YtbkpjhffmaldmaaGreatDoor

namespace Go.Proofs.YtbkpjhffmaldmaaGreatDoor
open dec

/-- A value: its kind, its number, its string. -/
structure Va where
  k : Int
  n : Int
  s : ByteArray
theorem Va.ext' {a b : Va} (h1 : a.k = b.k) (h2 : a.n = b.n) (h3 : a.s = b.s) : a = b := by cases a; cases b; simp_all
instance : DecidableEq Va := fun a b => decidable_of_iff (a.k = b.k ∧ a.n = b.n ∧ a.s = b.s) ⟨fun h => Va.ext' h.1 h.2.1 h.2.2, fun h => by subst h; exact ⟨rfl, rfl, rfl⟩⟩

/-- May this byte stand in a text (from lo on)? -/
def okB (lo : Nat) (c : UInt8) : Bool := decide (lo ≤ c.toNat) && decide (c.toNat ≤ 126) && !decide (c.toNat = 34) && !decide (c.toNat = 92)
def pB (lo : Nat) (l : List UInt8) : Bool := l.all (okB lo)
def fmd (v : Va) : Bool :=
  if v.k = 0 then decide (v.n = 0) && decide (v.s.size = 0)
  else if v.k = 1 then (decide (v.n = 0) || decide (v.n = 1)) && decide (v.s.size = 0)
  else if v.k = 2 ∨ v.k = 3 then decide (v.s.size = 0)
  else if v.k = 4 ∨ v.k = 5 then decide (v.n = 0)
  else false
def lmt (v : Va) : Bool :=
  if v.k = 2 ∨ v.k = 3 then rg v.n
  else if v.k = 4 then decide (v.s.size ≤ 64)
  else if v.k = 5 then decide (v.s.size ≤ 32)
  else true
def spl (v : Va) : Bool :=
  if v.k = 4 then pB 32 v.s.data.toList
  else if v.k = 5 then !decide (v.s.size = 0) && pB 33 v.s.data.toList
  else true
/-- values.Check. -/
def ck (v : Va) : Int := if fmd v then (if lmt v then (if spl v then 0 else 3) else 2) else 1
def ok (v : Va) : Bool := decide (ck v = 0)
theorem ok_iff (v : Va) : ok v = true ↔ fmd v = true ∧ lmt v = true ∧ spl v = true := by
  unfold ok ck
  cases fmd v <;> cases lmt v <;> cases spl v <;> simp

theorem ck_ok {v : Va} (h : ok v = true) : ck v = 0 := by unfold ok at h; exact of_decide_eq_true h
theorem size_zero {s : ByteArray} (h : s.size = 0) : s = .empty := by
  cases s with
  | mk d =>
    have : d.size = 0 := h
    rw [Array.eq_empty_of_size_eq_zero this]
    rfl
/-- What a valid value is. -/
theorem ok_cases {v : Va} (h : ok v = true) : v = ⟨0, 0, .empty⟩ ∨ v = ⟨1, 0, .empty⟩ ∨ v = ⟨1, 1, .empty⟩ ∨ (∃ n, v = ⟨2, n, .empty⟩ ∧ -1152921504606846976 ≤ n ∧ n ≤ 1152921504606846976) ∨ (∃ n, v = ⟨3, n, .empty⟩ ∧ -1152921504606846976 ≤ n ∧ n ≤ 1152921504606846976) ∨
    (∃ s, v = ⟨4, 0, s⟩ ∧ s.size ≤ 64 ∧ pB 32 s.data.toList = true) ∨ ∃ s, v = ⟨5, 0, s⟩ ∧ 1 ≤ s.size ∧ s.size ≤ 32 ∧ pB 33 s.data.toList = true := by
  obtain ⟨h1, h2, h3⟩ := (ok_iff v).1 h
  obtain ⟨k, n, s⟩ := v
  unfold fmd lmt spl at *
  simp only at h1 h2 h3
  by_cases k0 : k = 0
  · subst k0
    simp at h1
    exact .inl (Va.ext' rfl h1.1 h1.2)
  by_cases k1 : k = 1
  · subst k1
    simp at h1
    rcases h1.1 with e | e
    · exact .inr (.inl (Va.ext' rfl e h1.2))
    · exact .inr (.inr (.inl (Va.ext' rfl e h1.2)))
  by_cases k2 : k = 2
  · subst k2
    simp [rg_iff] at h1 h2
    exact .inr (.inr (.inr (.inl ⟨n, Va.ext' rfl rfl h1, h2.1, h2.2⟩)))
  by_cases k3 : k = 3
  · subst k3
    simp [rg_iff] at h1 h2
    exact .inr (.inr (.inr (.inr (.inl ⟨n, Va.ext' rfl rfl h1, h2.1, h2.2⟩))))
  by_cases k4 : k = 4
  · subst k4
    simp at h1 h2 h3
    exact .inr (.inr (.inr (.inr (.inr (.inl ⟨s, Va.ext' rfl h1 rfl, h2, h3⟩)))))
  by_cases k5 : k = 5
  · subst k5
    simp at h1 h2 h3
    exact .inr (.inr (.inr (.inr (.inr (.inr ⟨s, Va.ext' rfl h1 rfl, Nat.pos_of_ne_zero fun h => h3.1 (size_zero h), h2, h3.2⟩)))))
  · simp [k0, k1, k2, k3, k4, k5] at h1
theorem ok_text {s : ByteArray} (h1 : s.size ≤ 64) (h2 : pB 32 s.data.toList = true) : ok ⟨4, 0, s⟩ = true := by rw [ok_iff]; simp [fmd, lmt, spl, h1, h2]
theorem ok_key {s : ByteArray} (h0 : 1 ≤ s.size) (h1 : s.size ≤ 32) (h2 : pB 33 s.data.toList = true) : ok ⟨5, 0, s⟩ = true := by
  rw [ok_iff]
  have : ¬ s = .empty := fun e => by rw [e] at h0; exact absurd h0 (by decide)
  simp [fmd, lmt, spl, h1, h2, this]
theorem ok_int {n : Int} (h1 : -1152921504606846976 ≤ n) (h2 : n ≤ 1152921504606846976) : ok ⟨2, n, .empty⟩ = true := by
  rw [ok_iff]
  have := (rg_iff n).2 ⟨h1, h2⟩
  simp [fmd, lmt, spl, this]
theorem ok_dec {n : Int} (h1 : -1152921504606846976 ≤ n) (h2 : n ≤ 1152921504606846976) : ok ⟨3, n, .empty⟩ = true := by
  rw [ok_iff]
  have := (rg_iff n).2 ⟨h1, h2⟩
  simp [fmd, lmt, spl, this]

/-- values.Format. -/
def fmV (v : Va) : List UInt8 :=
  if v.k = 1 then (if v.n = 1 then [116, 114, 117, 101] else [102, 97, 108, 115, 101])
  else if v.k = 2 then Lib.itoa v.n
  else if v.k = 3 then foX v.n
  else if v.k = 4 then 34 :: (v.s.data.toList ++ [34])
  else if v.k = 5 then 64 :: v.s.data.toList
  else [110, 117, 108, 108]
def fm (v : Va) : List UInt8 := if ok v then fmV v else []
/-- values.candidate. -/
def cdP (l : List UInt8) : Va :=
  if l = [110, 117, 108, 108] then ⟨0, 0, .empty⟩
  else if l = [116, 114, 117, 101] then ⟨1, 1, .empty⟩
  else if l = [102, 97, 108, 115, 101] then ⟨1, 0, .empty⟩
  else if Lib.hasPrefix l [34] then ⟨4, 0, ⟨(Lib.trimSuffix (l.drop 1) [34]).toArray⟩⟩
  else if Lib.hasPrefix l [64] then ⟨5, 0, ⟨(l.drop 1).toArray⟩⟩
  else if 0 ≤ Lib.indexByte l 46 then ⟨3, paX l, .empty⟩
  else ⟨2, atoiN l, .empty⟩
/-- asofref05.whole. -/
def whP (l : List UInt8) : Va :=
  if atP l = l.length then ⟨0, 0, .empty⟩
  else match whl (l.drop (atP l)) 0 with
    | none => ⟨0, 0, .empty⟩
    | some a => ⟨2, if l.head? = some 45 then -(a : Int) else a, .empty⟩
/-- asofref05.guess. -/
def gsP (l : List UInt8) : Va :=
  if l = [116, 114, 117, 101] then ⟨1, 1, .empty⟩
  else if l = [102, 97, 108, 115, 101] then ⟨1, 0, .empty⟩
  else if 2 ≤ l.length ∧ l.getD 0 0 = 34 ∧ l.getD (l.length - 1) 0 = 34 then ⟨4, 0, ⟨((l.drop 1).take (l.length - 2)).toArray⟩⟩
  else if 1 ≤ l.length ∧ l.getD 0 0 = 64 then ⟨5, 0, ⟨(l.drop 1).toArray⟩⟩
  else if 46 ∈ l then ⟨3, (rpP l).1, .empty⟩
  else whP l

/-! Reading back. -/
theorem itoa_head (n : Int) : ∃ c r, Lib.itoa n = c :: r ∧ (c = 45 ∨ isD c = true) ∧ (∀ d ∈ r, isD d = true) := by
  unfold Lib.itoa
  by_cases h : n < 0
  · rw [if_pos h]; exact ⟨_, _, rfl, .inl rfl, dec_isD _⟩
  · rw [if_neg h]
    obtain ⟨c, r, e⟩ := dec_cons n.toNat
    exact ⟨c, r, e, .inr (dec_isD _ c (by rw [e]; exact List.mem_cons_self ..)), fun d hd => dec_isD n.toNat d (by rw [e]; exact List.mem_cons_of_mem _ hd)⟩
theorem fo_head (n : Int) : ∃ c r, foX n = c :: r ∧ (c = 45 ∨ isD c = true) ∧ 46 ∈ r := by
  rw [fo_eq]
  obtain ⟨c, r, e⟩ := dec_cons (n.natAbs / 1000000)
  have hc := dec_isD (n.natAbs / 1000000) c (by rw [e]; exact List.mem_cons_self ..)
  by_cases h : n < 0
  · rw [if_pos h]; exact ⟨45, bod n.natAbs, rfl, .inl rfl, by unfold bod; simp⟩
  · rw [if_neg h]; exact ⟨c, r ++ 46 :: frac n.natAbs, by unfold bod; rw [e]; rfl, .inr hc, by simp⟩
theorem head_ne {c : UInt8} (h : c = 45 ∨ isD c = true) : c ≠ 110 ∧ c ≠ 116 ∧ c ≠ 102 ∧ c ≠ 34 ∧ c ≠ 64 := by
  rcases h with rfl | h
  · decide
  · rw [isD_iff] at h
    exact ⟨ne_of_toNat (n := 110) (by decide) (by omega), ne_of_toNat (n := 116) (by decide) (by omega), ne_of_toNat (n := 102) (by decide) (by omega), ne_of_toNat (n := 34) (by decide) (by omega), ne_of_toNat (n := 64) (by decide) (by omega)⟩
theorem pre_one {c x : UInt8} (h : c ≠ x) (l : List UInt8) : Lib.hasPrefix (c :: l) [x] = false := by
  have e : (x == c) = false := by rw [beq_eq_false_iff_ne]; exact fun h' => h h'.symm
  simp [Lib.hasPrefix, List.isPrefixOf, e]
theorem pre_same (x : UInt8) (l : List UInt8) : Lib.hasPrefix (x :: l) [x] = true := by simp [Lib.hasPrefix, List.isPrefixOf]
theorem index_in {l : List UInt8} {c : UInt8} (h : c ∈ l) : 0 ≤ Lib.indexByte l c := by
  induction l with
  | nil => cases h
  | cons b l ih =>
    unfold Lib.indexByte
    by_cases hb : b = c
    · subst hb; simp
    · have e : (b == c) = false := by rw [beq_eq_false_iff_ne]; exact hb
      have := ih (by rcases List.mem_cons.1 h with h | h; exact absurd h.symm hb; exact h)
      rw [e]
      simp only [Bool.false_eq_true, if_false]
      split
      · rename_i h1
        have := beq_iff_eq.1 h1
        omega
      · omega
theorem index_out {l : List UInt8} {c : UInt8} (h : c ∉ l) : Lib.indexByte l c = -1 := by
  induction l with
  | nil => rfl
  | cons b l ih =>
    unfold Lib.indexByte
    have hb : b ≠ c := fun e => h (by rw [e]; exact List.mem_cons_self ..)
    have e : (b == c) = false := by rw [beq_eq_false_iff_ne]; exact hb
    rw [e, ih (fun h' => h (List.mem_cons_of_mem _ h'))]
    rfl
theorem ba_list (s : ByteArray) : (⟨s.data.toList.toArray⟩ : ByteArray) = s := rfl
theorem itoa_dot (n : Int) : 46 ∉ Lib.itoa n := by
  obtain ⟨c, r, e, h1, h2⟩ := itoa_head n
  rw [e]
  intro h
  rcases List.mem_cons.1 h with h | h
  · rcases h1 with h1 | h1
    · rw [h1] at h; exact absurd h (by decide)
    · rw [← h] at h1; exact absurd h1 (by decide)
  · exact absurd (h2 46 h) (by decide)
theorem suffix_one (l : List UInt8) (x : UInt8) : Lib.trimSuffix (l ++ [x]) [x] = l := by
  have h : Lib.hasSuffix (l ++ [x]) [x] = true := by
    unfold Lib.hasSuffix
    rw [List.isSuffixOf_iff_suffix]
    exact List.suffix_append l [x]
  unfold Lib.trimSuffix
  rw [h, if_pos rfl, List.length_append]
  show List.take (l.length + 1 - 1) (l ++ [x]) = l
  rw [Nat.add_sub_cancel, List.take_left]
theorem cd_fm {v : Va} (h : ok v = true) : cdP (fmV v) = v := by
  rcases ok_cases h with rfl | rfl | rfl | ⟨n, rfl, h1, h2⟩ | ⟨n, rfl, h1, h2⟩ | ⟨s, rfl, h1, h2⟩ | ⟨s, rfl, h0, h1, h2⟩
  · rfl
  · rfl
  · rfl
  · show cdP (Lib.itoa n) = _
    obtain ⟨c, r, e, hc, hr⟩ := itoa_head n
    obtain ⟨q1, q2, q3, q4, q5⟩ := head_ne hc
    have hd := index_out (itoa_dot n)
    have hb := atoi_back (n := n) (by omega) (by omega)
    rw [e] at hd hb ⊢
    unfold cdP
    rw [if_neg (by simp [q1]), if_neg (by simp [q2]), if_neg (by simp [q3]), pre_one q4, pre_one q5, hd, hb]
    rfl
  · show cdP (foX n) = _
    obtain ⟨c, r, e, hc, hr⟩ := fo_head n
    obtain ⟨q1, q2, q3, q4, q5⟩ := head_ne hc
    have hd := index_in (l := foX n) (c := 46) (by rw [e]; exact List.mem_cons_of_mem _ hr)
    have hb := (pa_fo h1 h2).1
    rw [e] at hd hb ⊢
    unfold cdP
    rw [if_neg (by simp [q1]), if_neg (by simp [q2]), if_neg (by simp [q3]), pre_one q4, pre_one q5, if_neg (by decide), if_neg (by decide), if_pos hd, hb]
  · show cdP (34 :: (s.data.toList ++ [34])) = _
    unfold cdP
    rw [if_neg (by simp), if_neg (by simp), if_neg (by simp), pre_same, if_pos rfl]
    show (⟨4, 0, ⟨(Lib.trimSuffix (s.data.toList ++ [34]) [34]).toArray⟩⟩ : Va) = _
    rw [suffix_one]
  · show cdP (64 :: s.data.toList) = _
    unfold cdP
    rw [if_neg (by simp), if_neg (by simp), if_neg (by simp), pre_one (by decide), pre_same, if_neg (by decide), if_pos rfl]
    rfl
theorem gs_fm {v : Va} (h : ok v = true) : gsP (fmV v) = v := by
  rcases ok_cases h with rfl | rfl | rfl | ⟨n, rfl, h1, h2⟩ | ⟨n, rfl, h1, h2⟩ | ⟨s, rfl, h1, h2⟩ | ⟨s, rfl, h0, h1, h2⟩
  · decide +kernel
  · decide +kernel
  · decide +kernel
  · show gsP (Lib.itoa n) = _
    obtain ⟨c, r, e, hc, hr⟩ := itoa_head n
    obtain ⟨q1, q2, q3, q4, q5⟩ := head_ne hc
    have hd := itoa_dot n
    rw [e] at hd
    have hw : whP (Lib.itoa n) = ⟨2, n, .empty⟩ := by
      unfold Lib.itoa
      by_cases hn : n < 0
      · rw [if_pos hn]
        obtain ⟨c', r', e'⟩ := dec_cons n.natAbs
        have hv := whl_digits (Lib.decDigits n.natAbs) 0 (dec_isD _) (by rw [dec_dval]; omega)
        rw [dec_dval] at hv
        have ha : atP (45 :: Lib.decDigits n.natAbs) = 1 := rfl
        unfold whP
        rw [ha, if_neg (by rw [e']; simp), List.drop_succ_cons, List.drop_zero, hv]
        simp only [List.head?_cons, if_true]
        exact Va.ext' rfl (by simp only; omega) rfl
      · rw [if_neg hn]
        have hv := whl_digits (Lib.decDigits n.toNat) 0 (dec_isD _) (by rw [dec_dval]; omega)
        rw [dec_dval] at hv
        obtain ⟨c', r', e'⟩ := dec_cons n.toNat
        have hc' := (isD_iff c').1 (dec_isD n.toNat c' (by rw [e']; exact List.mem_cons_self ..))
        have hne : c' ≠ 45 := ne_of_toNat (n := 45) (by decide) (by omega)
        have hh : ¬ (Lib.decDigits n.toNat).head? = some 45 := by rw [e', List.head?_cons]; simpa using hne
        have ha : atP (Lib.decDigits n.toNat) = 0 := by unfold atP; rw [if_neg hh]
        unfold whP
        rw [ha, if_neg (by rw [e']; simp), List.drop_zero, hv]
        simp only [if_neg hh]
        exact Va.ext' rfl (by simp only; omega) rfl
    rw [e] at hw ⊢
    unfold gsP
    rw [if_neg (by simp [q2]), if_neg (by simp [q3]), if_neg (by simp [q4]), if_neg (by simp [q5]), if_neg hd, hw]
  · show gsP (foX n) = _
    obtain ⟨c, r, e, hc, hr⟩ := fo_head n
    obtain ⟨q1, q2, q3, q4, q5⟩ := head_ne hc
    have hb := rp_fo h1 h2
    rw [e] at hb ⊢
    unfold gsP
    rw [if_neg (by simp [q2]), if_neg (by simp [q3]), if_neg (by simp [q4]), if_neg (by simp [q5]), if_pos (List.mem_cons_of_mem _ hr), hb]
  · show gsP (34 :: (s.data.toList ++ [34])) = _
    have hl : (34 :: (s.data.toList ++ [34])).length = s.data.toList.length + 2 := by simp
    have hlast : (34 :: (s.data.toList ++ [34])).getD (s.data.toList.length + 2 - 1) 0 = 34 := by
      rw [show s.data.toList.length + 2 - 1 = s.data.toList.length + 1 from rfl, List.getD_cons_succ]
      simp
    unfold gsP
    rw [if_neg (by simp), if_neg (by simp), hl, if_pos ⟨by omega, rfl, hlast⟩, List.drop_succ_cons, List.drop_zero, show s.data.toList.length + 2 - 2 = s.data.toList.length from rfl, List.take_left]
  · show gsP (64 :: s.data.toList) = _
    unfold gsP
    rw [if_neg (by simp), if_neg (by simp), if_neg (by simp), if_pos ⟨by simp, rfl⟩]
    rfl
theorem fmV_ne {v : Va} (h : ok v = true) : fmV v ≠ [] := by
  rcases ok_cases h with rfl | rfl | rfl | ⟨n, rfl, h1, h2⟩ | ⟨n, rfl, h1, h2⟩ | ⟨s, rfl, h1, h2⟩ | ⟨s, rfl, h0, h1, h2⟩
  · decide
  · decide
  · decide
  · show Lib.itoa n ≠ []
    obtain ⟨c, r, e, _⟩ := itoa_head n
    rw [e]; simp
  · show foX n ≠ []
    obtain ⟨c, r, e, _⟩ := fo_head n
    rw [e]; simp
  · show 34 :: _ ≠ []
    simp
  · show 64 :: _ ≠ []
    simp
theorem fm_ok {v : Va} (h : ok v = true) : fm v = fmV v := by unfold fm; rw [if_pos h]
theorem fm_no {v : Va} (h : ok v = false) : fm v = [] := by unfold fm; rw [h]; rfl
theorem fm_inj {a b : Va} (ha : ok a = true) (hb : ok b = true) (h : fm a = fm b) : a = b := by
  rw [fm_ok ha, fm_ok hb] at h
  rw [← cd_fm ha, ← cd_fm hb, h]

/-- values.Parse. -/
def psP (l : List UInt8) : Va × Int := if fm (cdP l) = l then (cdP l, 0) else (⟨0, 0, .empty⟩, 3)
theorem ps_fm {v : Va} (h : ok v = true) : psP (fm v) = (v, 0) := by
  rw [fm_ok h]
  unfold psP
  rw [cd_fm h, fm_ok h, if_pos rfl]
theorem cd_nil : ok (cdP []) = true := by decide +kernel
theorem ps_ok {l : List UInt8} (h : (psP l).2 = 0) : ok (psP l).1 = true ∧ fm (psP l).1 = l := by
  unfold psP at *
  by_cases e : fm (cdP l) = l
  · rw [if_pos e]
    refine ⟨?_, e⟩
    show ok (cdP l) = true
    cases hk : ok (cdP l)
    · rw [fm_no hk] at e
      subst e
      rw [cd_nil] at hk
      cases hk
    · rfl
  · rw [if_neg e] at h; cases h
/-- asofref05.Parse. -/
def rsP (l : List UInt8) : Va × Int := if ok (gsP l) = true ∧ fm (gsP l) = l then (gsP l, 0) else (⟨0, 0, .empty⟩, 3)
theorem rs_ps (l : List UInt8) : rsP l = psP l := by
  by_cases h : (psP l).2 = 0
  · obtain ⟨h1, h2⟩ := ps_ok h
    have e1 : cdP l = (psP l).1 := by rw [← cd_fm h1, ← fm_ok h1, h2]
    have e2 : gsP l = (psP l).1 := by rw [← gs_fm h1, ← fm_ok h1, h2]
    unfold rsP
    rw [e2, if_pos ⟨h1, h2⟩]
    have : psP l = ((psP l).1, (psP l).2) := rfl
    rw [this, h]
  · have hn : ¬ (ok (gsP l) = true ∧ fm (gsP l) = l) := by
      rintro ⟨h1, h2⟩
      apply h
      rw [← h2, ps_fm h1]
    unfold rsP
    rw [if_neg hn]
    unfold psP at *
    split
    · rename_i e; rw [if_pos e] at h; exact absurd rfl h
    · rfl
end Go.Proofs.YtbkpjhffmaldmaaGreatDoor

namespace Go.Proofs.YtbkpjhffmaldmaaGreatDoor

structure Good {α : Type} (f : α → α → Int) : Prop where
  eq : ∀ x y, f x y = 0 ↔ x = y
  neg : ∀ x y, f y x = - f x y
  tr : ∀ x y z, f x y ≤ 0 → f y z ≤ 0 → f x z ≤ 0
def lex {α β : Type} (f : α → α → Int) (g : β → β → Int) (x y : α × β) : Int := if f x.1 y.1 = 0 then g x.2 y.2 else f x.1 y.1
theorem Good.lex {α β : Type} {f : α → α → Int} {g : β → β → Int} (hf : Good f) (hg : Good g) : Good (lex f g) := by
  refine ⟨fun x y => ?_, fun x y => ?_, fun x y z h1 h2 => ?_⟩
  · unfold Go.Proofs.YtbkpjhffmaldmaaGreatDoor.lex
    have h1 := hf.eq x.1 y.1
    have h2 := hg.eq x.2 y.2
    by_cases h : f x.1 y.1 = 0
    · rw [if_pos h, h2]
      exact ⟨fun e => Prod.ext (h1.1 h) e, fun e => by rw [e]⟩
    · rw [if_neg h]
      exact ⟨fun e => absurd e h, fun e => absurd (h1.2 (by rw [e])) h⟩
  · unfold Go.Proofs.YtbkpjhffmaldmaaGreatDoor.lex
    have h1 := hf.neg x.1 y.1
    by_cases h : f x.1 y.1 = 0
    · rw [if_pos h, if_pos (by omega), hg.neg]
    · rw [if_neg h, if_neg (by omega), h1]
  · unfold Go.Proofs.YtbkpjhffmaldmaaGreatDoor.lex at *
    by_cases a : f x.1 y.1 = 0
    · rw [if_pos a] at h1
      have e1 := (hf.eq _ _).1 a
      by_cases b : f y.1 z.1 = 0
      · rw [if_pos b] at h2
        rw [e1, if_pos b]
        exact hg.tr _ _ _ h1 h2
      · rw [if_neg b] at h2
        rw [e1, if_neg b]
        exact h2
    · rw [if_neg a] at h1
      by_cases b : f y.1 z.1 = 0
      · have e2 := (hf.eq _ _).1 b
        rw [← e2, if_neg a]
        exact h1
      · rw [if_neg b] at h2
        have h3 := hf.tr _ _ _ h1 h2
        by_cases c : f x.1 z.1 = 0
        · exfalso
          have e3 := (hf.eq _ _).1 c
          have := hf.neg y.1 z.1
          rw [← e3] at this h2 b
          rw [this] at a
          omega
        · rw [if_neg c]
          exact h3

def cI (x y : Int) : Int := Lib.compareInt x y
theorem good_cI : Good cI := by
  refine ⟨fun x y => ?_, fun x y => ?_, fun x y z h1 h2 => ?_⟩
  · unfold cI Lib.compareInt; split <;> (try split) <;> omega
  · unfold cI Lib.compareInt; (repeat' split) <;> omega
  · unfold cI Lib.compareInt at *
    split at h1
    · split at h2
      · rw [if_pos (by omega)]; omega
      · split at h2
        · omega
        · rw [if_pos (by omega)]; omega
    · split at h1
      · omega
      · split at h2
        · rw [if_pos (by omega)]; omega
        · split at h2
          · omega
          · rw [if_neg (by omega), if_neg (by omega)]; omega

theorem less_irr : ∀ (l : List UInt8), Op.bytesLess l l = false
  | [] => rfl
  | a :: x => by rw [Op.bytesLess, less_irr x]; simp
theorem u8_lt {a b : UInt8} : (a < b) = (a.toNat < b.toNat) := rfl
theorem u8_eq {a b : UInt8} : (a = b) = (a.toNat = b.toNat) := propext ⟨fun h => by rw [h], fun h => UInt8.toNat_inj.1 h⟩
theorem less_cons (a b : UInt8) (x y : List UInt8) : Op.bytesLess (a :: x) (b :: y) = true ↔ a.toNat < b.toNat ∨ (a.toNat = b.toNat ∧ Op.bytesLess x y = true) := by
  rw [Op.bytesLess, Bool.or_eq_true, Bool.and_eq_true, decide_eq_true_eq, beq_iff_eq, u8_lt, u8_eq]
theorem less_tr : ∀ (x y z : List UInt8), Op.bytesLess x y = true → Op.bytesLess y z = true → Op.bytesLess x z = true
  | [], [], z, h, _ => by cases h
  | [], b :: y, [], _, h => by cases h
  | [], b :: y, c :: z, _, _ => rfl
  | a :: x, [], z, h, _ => by cases h
  | a :: x, b :: y, [], _, h => by cases h
  | a :: x, b :: y, c :: z, h1, h2 => by
    rw [less_cons] at *
    rcases h1 with h1 | ⟨h1, h1'⟩ <;> rcases h2 with h2 | ⟨h2, h2'⟩
    · omega
    · omega
    · omega
    · exact .inr ⟨by omega, less_tr x y z h1' h2'⟩
theorem less_tri : ∀ (x y : List UInt8), Op.bytesLess x y = false → x ≠ y → Op.bytesLess y x = true
  | [], [], _, h => absurd rfl h
  | [], b :: y, h, _ => by cases h
  | a :: x, [], _, _ => rfl
  | a :: x, b :: y, h, hne => by
    have h' : ¬ Op.bytesLess (a :: x) (b :: y) = true := by rw [h]; decide
    rw [less_cons] at h' ⊢
    by_cases e : a.toNat = b.toNat
    · refine .inr ⟨e.symm, less_tri x y ?_ ?_⟩
      · cases hx : Op.bytesLess x y
        · rfl
        · exact absurd (.inr ⟨e, hx⟩) h'
      · intro hxy
        apply hne
        rw [hxy, UInt8.toNat_inj.1 e]
    · exact .inl (by omega)
def cB (x y : List UInt8) : Int := if Op.bytesLess x y = true then -1 else if x = y then 0 else 1
theorem good_cB : Good cB := by
  refine ⟨fun x y => ?_, fun x y => ?_, fun x y z h1 h2 => ?_⟩
  · unfold cB
    by_cases h : Op.bytesLess x y = true
    · rw [if_pos h]
      refine ⟨fun e => absurd e (by decide), fun e => ?_⟩
      rw [e, less_irr] at h; cases h
    · rw [if_neg h]
      by_cases e : x = y
      · rw [if_pos e]; exact ⟨fun _ => e, fun _ => rfl⟩
      · rw [if_neg e]; exact ⟨fun h => absurd h (by decide), fun h => absurd h e⟩
  · unfold cB
    by_cases e : x = y
    · subst e
      rw [less_irr]; simp
    · cases h : Op.bytesLess x y
      · rw [less_tri x y h e, if_pos rfl, if_neg (by decide), if_neg e]
      · have : Op.bytesLess y x = false := by
          cases h' : Op.bytesLess y x
          · rfl
          · have := less_tr _ _ _ h h'
            rw [less_irr] at this; cases this
        rw [this, if_neg (by decide), if_neg (fun h => e h.symm), if_pos rfl]; rfl
  · unfold cB at *
    by_cases e1 : x = y
    · subst e1; exact h2
    by_cases e2 : y = z
    · subst e2; exact h1
    have l1 : Op.bytesLess x y = true := by
      cases h : Op.bytesLess x y
      · rw [h, if_neg (by decide), if_neg e1] at h1; omega
      · rfl
    have l2 : Op.bytesLess y z = true := by
      cases h : Op.bytesLess y z
      · rw [h, if_neg (by decide), if_neg e2] at h2; omega
      · rfl
    rw [if_pos (less_tr _ _ _ l1 l2)]
    decide
def cS (a b : ByteArray) : Int := cB a.toList b.toList
theorem toList_inj {a b : ByteArray} (h : a.toList = b.toList) : a = b := by
  rw [ByteArray.toList_eq, ByteArray.toList_eq] at h
  cases a; cases b
  simp only at h
  rw [Array.toList_inj.1 h]
theorem good_cS : Good cS :=
  ⟨fun x y => ⟨fun h => toList_inj ((good_cB.eq _ _).1 h), fun h => (good_cB.eq _ _).2 (by rw [h])⟩, fun x y => good_cB.neg _ _, fun x y z => good_cB.tr _ _ _⟩

/-- values.Compare. -/
def cV (a b : Va) : Int := lex cI (lex cI cS) (a.k, a.n, a.s) (b.k, b.n, b.s)
theorem good_cV : Good cV := by
  have g := good_cI.lex (good_cI.lex good_cS)
  refine ⟨fun x y => ?_, fun x y => g.neg _ _, fun x y z => g.tr _ _ _⟩
  unfold cV
  rw [g.eq]
  exact ⟨fun h => Va.ext' (congrArg (·.1) h) (congrArg (·.2.1) h) (congrArg (·.2.2) h), fun h => by rw [h]⟩
theorem cV_eq (a b : Va) : cV a b = if cI a.k b.k = 0 then (if cI a.n b.n = 0 then cS a.s b.s else cI a.n b.n) else cI a.k b.k := rfl
theorem cV_range (a b : Va) : -1 ≤ cV a b ∧ cV a b ≤ 1 := by
  have h1 : ∀ x y, -1 ≤ cI x y ∧ cI x y ≤ 1 := fun x y => by unfold cI Lib.compareInt; split <;> (try split) <;> omega
  have h2 : -1 ≤ cS a.s b.s ∧ cS a.s b.s ≤ 1 := by unfold cS cB; split <;> (try split) <;> omega
  have := h1 a.k b.k
  have := h1 a.n b.n
  rw [cV_eq]
  split
  · split <;> assumption
  · assumption
end Go.Proofs.YtbkpjhffmaldmaaGreatDoor

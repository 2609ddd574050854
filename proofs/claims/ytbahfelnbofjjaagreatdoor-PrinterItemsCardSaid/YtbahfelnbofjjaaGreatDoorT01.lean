/-
  Pairs of words as integers, and the operations of package exact on them; division as arithmetic (taken over from stages 1 and 2); exact.Divide and the contracts of packages exact and decimal (taken over from stages 1 and 2); decimal.Parse for every string and decimal.Format for every int (taken over from stage 2); Values as plain data: Check, Format, Parse and the order, and how they belong together; What the listed variables hold, as the walks use it; strconv.Atoi and Itoa; Sources and tokens as plain data: what is skipped, the shape of what a source begins with, the codes of problems, the tokens and problems of a source.
-/
import Derived.WalkKit
import Derived.WalkLawsBesides
import Derived.OpenShut
import Derived.Outline
import Derived.Laws.Externs
import Derived.StillTailTactics
import Derived.Laws.Pointers
import Derived.Deep.RegionHeld3
import Derived.Deep.QuietTactic
import Derived.BigQuiet
import Derived.RowKit3
import Derived.Shelf.Bits.Mul64
import Derived.Lib.Hide
import Derived.Laws.Bits64b
import Derived.Lib.ItoaNum
import Derived.Lib.BitFns
import Derived.Deep.CutBlock
import Derived.Deep.DeepCutAuto
import Derived.Deep.LoopGhost
import Derived.Shelf.Small.Bits
import Derived.Shelf.Strconv.Itoa0
import Derived.Lib.SmallJoins
import Derived.Lib.QuietBelow
import Derived.WalkSmall
import Derived.Lib.LaidTab
import Derived.WalkMore
import Derived.Lib.ItoaMem
import Derived.BigCall
import Derived.BigGuard
import Derived.Laws.Concat
import Derived.Lib.AtoiAllCases
import Derived.Lib.Strings
import Derived.Lib.Bytealg
import Derived.Lib.Small
import Derived.Test.YtbahfelnbofjjaaGreatDoorChecked
import Derived.Test.YtbahfelnbofjjaaGreatDoorShelf
set_option maxRecDepth 100000
set_option maxHeartbeats 16000000
namespace Go.Proofs.YtbahfelnbofjjaaGreatDoor.dec
open Go.RowKit
def lo (n : Int) : Int := n % 18446744073709551616
def hi (n : Int) : Int := (n / 18446744073709551616 + 9223372036854775808) % 18446744073709551616 - 9223372036854775808
def W (n : Int) : Value := .agg #[.int .i64 (hi n), .int .u64 (lo n)]
theorem lo_range (n : Int) : 0 ≤ lo n ∧ lo n ≤ 18446744073709551615 := by unfold lo; omega
theorem hi_range (n : Int) : -9223372036854775808 ≤ hi n ∧ hi n ≤ 9223372036854775807 := by unfold hi; omega
theorem W_zero : Value.agg #[.int .i64 0, .int .u64 0] = W 0 := by
 have e1 : hi 0 = 0 := by decide
 have e2 : lo 0 = 0 := by decide
 unfold W; rw [e1, e2]
def bor (x y : Int) : Int := if x < y then 1 else 0
theorem bor_range (x y : Int) : 0 ≤ bor x y ∧ bor x y ≤ 1 := by unfold bor; split <;> decide
theorem sub_hi (a b : Int) : wrap64 (wrap64 (hi a - hi b) - bor (lo a) (lo b)) = hi (a - b) := by unfold hi lo wrap64 bor; split <;> omega
theorem sub_lo (a b : Int) : (lo a - lo b) % 18446744073709551616 = lo (a - b) := by unfold lo; omega
def In (n : Int) : Prop := -170141183460469231731687303715884105728 ≤ n ∧ n < 170141183460469231731687303715884105728
def ab (a : Int) : Int := if a < 0 then -a else a
theorem ab_neg {a : Int} (h : a < 0) : ab a = -a := by unfold ab; rw [if_pos h]
theorem ab_pos {a : Int} (h : 0 ≤ a) : ab a = a := by unfold ab; rw [if_neg (by omega)]
theorem hi_neg {a : Int} (ha : In a) : hi a < 0 ↔ a < 0 := by unfold In at ha; unfold hi; omega
theorem ab_hi {a : Int} (ha : In a) : IntKind.u64.wrap (hi (ab a)) = ab a / 18446744073709551616 := by
 unfold In at ha; rw [IntKind.wrap_u64]; unfold hi ab; split <;> omega
def ru (q r d : Int) : Int := if d - r < r ∨ (r = d - r ∧ q % 2 = 1) then 1 else 0
def quo (a d : Int) : Int := ab a / ab d + ru (ab a / ab d) (ab a % ab d) (ab d)
def dvOk (a d : Int) : Bool := decide (d ≠ 0 ∧ quo a d ≤ 1152921504606846976)
def sq (a d : Int) : Int := if (a < 0 ∧ 0 ≤ d) ∨ (0 ≤ a ∧ d < 0) then -quo a d else quo a d
def dv (a d : Int) : Int := if dvOk a d then sq a d else 0
theorem ab_nonneg (a : Int) : 0 ≤ ab a := by unfold ab; split <;> omega
structure Dv (a d A D ah al q r x : Int) : Prop where
 A0 : ab a = A
 D0 : ab d = D
 eah : A / 18446744073709551616 = ah
 eal : A % 18446744073709551616 = al
 eq : q = A / D
 er : r = A % D
 ex : x = ru q r D
theorem dvOk_of {a d A D ah al q r x : Int} (h : Dv a d A D ah al q r x) : dvOk a d = decide (D ≠ 0 ∧ q + x ≤ 1152921504606846976) := by
 obtain ⟨rfl, rfl, rfl, rfl, rfl, rfl, rfl⟩ := h
 unfold dvOk quo
 have : (d ≠ 0) ↔ (ab d ≠ 0) := by unfold ab; split <;> omega
 simp only [this]
theorem Dv.some {a d A D ah al q r x : Int} (h : Dv a d A D ah al q r x) (g : ah < D) (g' : q + x ≤ 1152921504606846976) : dvOk a d = true := by
 rw [dvOk_of h]
 have hA := ab_nonneg a
 rw [h.A0] at hA
 have := h.eah
 simp only [decide_eq_true_eq]
 omega
theorem Dv.sq {a d A D ah al q r x : Int} (h : Dv a d A D ah al q r x) : sq a d = if (a < 0 ∧ 0 ≤ d) ∨ (0 ≤ a ∧ d < 0) then -(q + x) else q + x := by
 obtain ⟨rfl, rfl, rfl, rfl, rfl, rfl, rfl⟩ := h
 rfl
end Go.Proofs.YtbahfelnbofjjaaGreatDoor.dec
namespace Go.Proofs.YtbahfelnbofjjaaGreatDoor.dec
open Go.RowKit Go.Shelf
def subEntry : Array Value → Sem Value := fun args => do
 let (x, y, b) ← Extern.MathBitsCarry.three "Sub64" args
 pure (Extern.MathBitsCarry.pair ((x + Extern.MathBitsCarry.m64 - y - b) % Extern.MathBitsCarry.m64) (if x < y + b then 1 else 0))
theorem sub64 (x y : Int) (hx : 0 ≤ x) (hy : 0 ≤ y) (hy' : y ≤ 18446744073709551615) (w : World) : (callFunc 323 #[.int .u64 x, .int .u64 y, .int .u64 0]).run Tryz.prog w =
  .ok (.value (.tuple #[.int .u64 ((x - y) % 18446744073709551616), .int .u64 (bor x y)])) w := by
 obtain ⟨x, rfl⟩ := Int.eq_ofNat_of_zero_le hx
 obtain ⟨y, rfl⟩ := Int.eq_ofNat_of_zero_le hy
 have e1 : (((x + 18446744073709551616 - y - 0) % 18446744073709551616 : Nat) : Int) = ((x : Int) - y) % 18446744073709551616 := by omega
 have e2 : ((if x < y + 0 then 1 else 0 : Nat) : Int) = bor x y := by unfold bor; split <;> split <;> omega
 rw [← e1, ← e2]
 rw [run_callFunc_extern Tryz.func323 (by kernel_rfl) (by kernel_rfl) (by kernel_rfl) (e := subEntry) (by kernel_rfl)]
 rfl
theorem sub_any {x y : Value} {a b : Int} (hx : x = W a) (hy : y = W b) (w : World) :
  Calls Tryz.prog 314 #[x, y] w fun e w' => e = .returned (W (a - b)) ∧ ∃ c1 c2 c3 : Array Value, w' = ((w.alloc (.cells c1 221)).alloc (.cells c2 221)).alloc (.cells c3 221) := by
 subst hx hy
 have ra := lo_range a; have rb := lo_range b; have ha := hi_range a; have hb := hi_range b
 obtain ⟨k0, k1⟩ := bor_range (lo a) (lo b)
 obtain ⟨ra1, ra2⟩ := ra; obtain ⟨rb1, rb2⟩ := rb; obtain ⟨ha1, ha2⟩ := ha; obtain ⟨hb1, hb2⟩ := hb
 unfold W
 go_enter Tryz.func314, Tryz.ntmps314
 go_wp2_with (simp only [sub64 (lo a) (lo b) ra1 rb1 rb2])
 simp [bodyPost, results, Tryz.results314, go_sem]
 exact ⟨⟨sub_hi a b, sub_lo a b⟩, _, _, _, rfl⟩
theorem neg_any {x : Value} {a : Int} (hx : x = W a) (w : World) :
  Calls Tryz.prog 305 #[x] w fun e w' => e = .returned (W (-a)) ∧ ∃ c1 c2 c3 c4 c5 : Array Value, w' = ((((w.alloc (.cells c1 221)).alloc (.cells c2 221)).alloc (.cells c3 221)).alloc (.cells c4 221)).alloc (.cells c5 221) := by
 subst hx
 unfold W
 go_enter Tryz.func305, Tryz.ntmps305
 go_wp2_with (go_at_call 314; refine (sub_any (a := 0) (b := a) W_zero rfl _).mono ?_; unfold W; rintro e w' ⟨rfl, c1, c2, c3, rfl⟩)
 simp [bodyPost, results, Tryz.results305, go_sem]
 exact ⟨_, _, _, _, _, rfl⟩
end Go.Proofs.YtbahfelnbofjjaaGreatDoor.dec
namespace Go.Proofs.YtbahfelnbofjjaaGreatDoor.dec
open Go.RowKit Go.Shelf
theorem store2 {B k : Nat} {W w1 : World} (h : Below B W w1) (hk : B ≤ k) (u v : Value) : Below B W ((w1.setCell ⟨k, 0, none⟩ u).setCell ⟨k, 1, none⟩ v) :=
 Below.setCell (p := ⟨k, 1, none⟩) (Below.setCell (p := ⟨k, 0, none⟩) h hk u) hk v
theorem keeps {W w1 : World} (hb : Below W.heap.size W w1) {k o : Nat} {v : Value} (h : W.cell? ⟨k, o, none⟩ = some v) : w1.cell? ⟨k, o, none⟩ = some v := by
 rw [hb.cell (block_lt_of_cell h)]; exact h
theorem read2 {w1 : World} {k : Nat} {a0 a1 : Value} (h0 : w1.cell? ⟨k, 0, none⟩ = some a0) (h1 : w1.cell? ⟨k, 1, none⟩ = some a1) (u v : Value) :
  ((w1.setCell ⟨k, 0, none⟩ u).setCell ⟨k, 1, none⟩ v).cell? ⟨k, 0, none⟩ = some u ∧ ((w1.setCell ⟨k, 0, none⟩ u).setCell ⟨k, 1, none⟩ v).cell? ⟨k, 1, none⟩ = some v := by
 constructor
 ·rw [World.cell?_setCell_other _ _ _ _ (by simp)]; exact World.cell?_setCell_same _ _ _ h0
 ·exact World.cell?_setCell_same _ _ _ (u := a1) (by rw [World.cell?_setCell_other _ _ _ _ (by simp)]; exact h1)
end Go.Proofs.YtbahfelnbofjjaaGreatDoor.dec
namespace Go.Proofs.YtbahfelnbofjjaaGreatDoor.dec
open Go.RowKit Go.Shelf
theorem size_any {x : Value} {a : Int} (hx : x = W a) (ia : In a) (w : World) :
  Calls Tryz.prog 287 #[x] w fun e w' => e = .returned (.agg #[.int .u64 (ab a % 18446744073709551616), .int .u64 (ab a / 18446744073709551616)]) ∧ Below w.heap.size w w' := by
 subst hx
 have e2 : Hid (IntKind.u64.wrap (hi (ab a)) = ab a / 18446744073709551616) := ab_hi ia
 have e1 : Hid (lo (ab a) = ab a % 18446744073709551616) := rfl
 by_cases h : a < 0
 ·have hh : hi a < 0 := (hi_neg ia).2 h
  have e0 : ab a = -a := ab_neg h
  rw [e0] at e1 e2 ⊢
  clear e0
  unfold W
  go_enter Tryz.func287, Tryz.ntmps287
  go_wp2_with (go_at_call 305; refine (neg_any (a := a) rfl _).mono ?_; unfold W; rintro e w' ⟨rfl, c1, c2, c3, c4, c5, rfl⟩)
  rw [e1.out, e2.out]
  simp [bodyPost, results, Tryz.results287, go_sem]
  exact ((((((Below.refl _ _).alloc (Nat.le_refl _) _).alloc (by simp) _).alloc (by simp; omega) _).alloc (by simp; omega) _).alloc (by simp; omega) _).alloc (by simp; omega) _ |>.alloc (by simp; omega) _
 ·have hh : 0 ≤ hi a := by have := hi_neg ia; omega
  have e0 : ab a = a := ab_pos (by omega)
  rw [e0] at e1 e2 ⊢
  clear e0
  unfold W
  go_enter Tryz.func287, Tryz.ntmps287
  go_wp2
  rw [e1.out, e2.out]
  simp [bodyPost, results, Tryz.results287, go_sem]
  exact ((Below.refl _ _).alloc (Nat.le_refl _) _).alloc (by simp) _
end Go.Proofs.YtbahfelnbofjjaaGreatDoor.dec
namespace Go.Proofs.YtbahfelnbofjjaaGreatDoor.dec
open Go.RowKit
def dig (u v y : Int) : Int := (u * 4294967296 + v) / y
structure Kn (y y1 y0 u v : Int) : Prop where
 ey : y = y1 * 4294967296 + y0
 y1a : 2147483648 ≤ y1
 y1b : y1 ≤ 4294967295
 y0a : 0 ≤ y0
 y0b : y0 ≤ 4294967295
 u0 : 0 ≤ u
 u1 : u < y
 v0 : 0 ≤ v
 v1 : v ≤ 4294967295
section
variable {y y1 y0 u v q r : Int}
theorem Kn.pos (K : Kn y y1 y0 u v) : 0 < y := by have := K.ey; have := K.y1a; have := K.y0a; omega
theorem Kn.lt (K : Kn y y1 y0 u v) : dig u v y < 4294967296 := by
 unfold dig; rw [Int.ediv_lt_iff_lt_mul K.pos]; have := K.u1; have := K.v1; omega
theorem Kn.nonneg (K : Kn y y1 y0 u v) : 0 ≤ dig u v y := by
 unfold dig; rw [Int.le_ediv_iff_mul_le K.pos]; have := K.u0; have := K.v0; omega
theorem Kn.test (K : Kn y y1 y0 u v) (h : q * y1 + r = u) : q * y0 ≤ 4294967296 * r + v ↔ q ≤ dig u v y := by
 unfold dig
 rw [Int.le_ediv_iff_mul_le K.pos, K.ey, Int.mul_add, ← Int.mul_assoc]
 generalize q * y1 = m at *
 generalize q * y0 = p
 omega
theorem Kn.start (K : Kn y y1 y0 u v) : dig u v y ≤ u / y1 ∧ u / y1 ≤ 4294967297 := by
 have hy := K.ey; have a := K.y1a; have b := K.y1b; have c := K.y0a; have d := K.y0b; have e := K.u1; have f := K.v1
 constructor
 ·rw [Int.le_ediv_iff_mul_le (by omega)]
  have h := Int.ediv_mul_le (u * 4294967296 + v) (b := y) (by have := K.pos; omega)
  have h0 := Int.mul_nonneg K.nonneg c
  change dig u v y * y ≤ _ at h
  rw [hy, Int.mul_add, ← Int.mul_assoc, ← hy] at h
  generalize dig u v y * y1 = m at *
  generalize dig u v y * y0 = p at *
  omega
 ·have : u / y1 < 4294967298 := by rw [Int.ediv_lt_iff_lt_mul (by omega)]; omega
  omega
theorem Kn.out (K : Kn y y1 y0 u v) (h : q * y1 + r = u) (h1 : q ≤ 4294967296) (h2 : 4294967296 ≤ r) : q ≤ dig u v y := by
 rw [← K.test h]
 have a := K.y0a; have b := K.y0b; have c := K.v0
 have m := Int.mul_le_mul h1 b a (by omega)
 omega
theorem Kn.rest (K : Kn y y1 y0 u v) : 0 ≤ u * 4294967296 + v - dig u v y * y ∧ u * 4294967296 + v - dig u v y * y < y := by
 have e : u * 4294967296 + v - dig u v y * y = (u * 4294967296 + v) % y := by rw [Int.emod_def]; unfold dig; rw [Int.mul_comm y]
 rw [e]
 exact ⟨Int.emod_nonneg _ (by have := K.pos; omega), Int.emod_lt_of_pos _ K.pos⟩
end
end Go.Proofs.YtbahfelnbofjjaaGreatDoor.dec
namespace Go.Proofs.YtbahfelnbofjjaaGreatDoor.dec
open Go.RowKit
theorem ok_iff (a d : Int) : dvOk a d = true ↔ d ≠ 0 ∧ quo a d ≤ 1152921504606846976 := by unfold dvOk; rw [decide_eq_true_eq]
end Go.Proofs.YtbahfelnbofjjaaGreatDoor.dec
namespace Go.Proofs.YtbahfelnbofjjaaGreatDoor.dec
open Go.RowKit
end Go.Proofs.YtbahfelnbofjjaaGreatDoor.dec
namespace Go.Proofs.YtbahfelnbofjjaaGreatDoor.dec
open Go.RowKit
def rg (x : Int) : Bool := decide (-1152921504606846976 ≤ x ∧ x ≤ 1152921504606846976)
theorem rg_iff (x : Int) : rg x = true ↔ -1152921504606846976 ≤ x ∧ x ≤ 1152921504606846976 := by unfold rg; rw [decide_eq_true_eq]
theorem rg_no (x : Int) : rg x = false ↔ x < -1152921504606846976 ∨ 1152921504606846976 < x := by unfold rg; rw [decide_eq_false_iff_not]; omega
end Go.Proofs.YtbahfelnbofjjaaGreatDoor.dec
namespace Go.Proofs.YtbahfelnbofjjaaGreatDoor.dec
open Go.RowKit Go.Shelf
end Go.Proofs.YtbahfelnbofjjaaGreatDoor.dec
namespace Go.Proofs.YtbahfelnbofjjaaGreatDoor.dec
open Go.RowKit Go.Shelf
theorem keeps_alloc {w : World} {p : Addr} {v : Value} (o : Obj) (h : w.cell? p = some v) : (w.alloc o).cell? p = some v := by
 rw [World.cell?_alloc_lt _ _ _ (block_lt_of_cell h)]; exact h
theorem below_drewN' {B : Nat} {a w : World} (h : Below B a w) (n : Nat) : Below B a (w.drewN n) := ⟨h.os, h.tape, h.output, h.size, h.block⟩
end Go.Proofs.YtbahfelnbofjjaaGreatDoor.dec
namespace Go.Proofs.YtbahfelnbofjjaaGreatDoor.dec
open Go.RowKit Go.Shelf
theorem bnext {w a b : World} (h : Below w.heap.size w a) (k : Below a.heap.size a b) : Below w.heap.size w b := h.trans (k.mono h.size)
theorem balloc {w a : World} (h : Below w.heap.size w a) (o : Obj) : Below w.heap.size w (a.alloc o) := h.alloc h.size o
theorem b0 (w : World) : Below w.heap.size w w := Below.refl _ _
def Box (w : World) (k : Nat) (a : Int) : Prop := w.cell? ⟨k, 0, none⟩ = some (.int .i64 (hi a)) ∧ w.cell? ⟨k, 1, none⟩ = some (.int .u64 (lo a))
theorem Box.new (w : World) (a : Int) : Box (w.alloc (.cells #[.int .i64 (hi a), .int .u64 (lo a)] 221)) w.heap.size a := ⟨by simp [go_sem], by simp [go_sem]⟩
theorem Box.keeps {w w1 : World} {k : Nat} {a : Int} (h : Box w k a) (hb : Go.RowKit.Below w.heap.size w w1) : Box w1 k a := ⟨Go.Proofs.YtbahfelnbofjjaaGreatDoor.dec.keeps hb h.1, Go.Proofs.YtbahfelnbofjjaaGreatDoor.dec.keeps hb h.2⟩
theorem Box.past {w : World} {k : Nat} {a : Int} (h : Box w k a) (o : Obj) : Box (w.alloc o) k a := ⟨keeps_alloc o h.1, keeps_alloc o h.2⟩
theorem Box.lt {w : World} {k : Nat} {a : Int} (h : Box w k a) : k < w.heap.size := block_lt_of_cell h.1
theorem Box.put {w : World} {k : Nat} {a : Int} (h : Box w k a) (b : Int) : Box ((w.setCell ⟨k, 0, none⟩ (.int .i64 (hi b))).setCell ⟨k, 1, none⟩ (.int .u64 (lo b))) k b := read2 h.1 h.2 _ _
theorem Box.off {w : World} {k k' : Nat} {a : Int} (h : Box w k a) (hk : k' ≠ k) (u v : Value) : Box ((w.setCell ⟨k', 0, none⟩ u).setCell ⟨k', 1, none⟩ v) k a := by
 have e : ∀ o o', (⟨k', o, none⟩ : Addr) ≠ ⟨k, o', none⟩ := fun _ _ h => hk (congrArg Addr.block h)
 unfold Box
 rw [World.cell?_setCell_other _ _ _ _ (e 1 0), World.cell?_setCell_other _ _ _ _ (e 0 0), World.cell?_setCell_other _ _ _ _ (e 1 1), World.cell?_setCell_other _ _ _ _ (e 0 1)]
 exact h
def Free (w : World) (k : Nat) : Prop := w.frozen? ⟨k, 0, none⟩ = false ∧ w.frozen? ⟨k, 1, none⟩ = false ∧ k < w.heap.size
theorem Free.new (w : World) (c : Array Value) : Free (w.alloc (.cells c 221)) w.heap.size := ⟨by simp [go_sem], by simp [go_sem], by simp⟩
theorem Free.keeps {w w1 : World} {k : Nat} (h : Free w k) (hb : Go.RowKit.Below w.heap.size w w1) : Free w1 k :=
 ⟨by rw [hb.frozen (p := ⟨k, 0, none⟩) h.2.2]; exact h.1, by rw [hb.frozen (p := ⟨k, 1, none⟩) h.2.2]; exact h.2.1, Nat.lt_of_lt_of_le h.2.2 hb.size⟩
theorem Free.past {w : World} {k : Nat} (h : Free w k) (c : Array Value) (t : TypeId) : Free (w.alloc (.cells c t)) k :=
 h.keeps ((Go.RowKit.Below.refl _ _).alloc (Nat.le_refl _) _)
def Fresh (w : World) (k : Nat) : Prop := w.cell? ⟨k, 0, none⟩ = some (.int .i64 0) ∧ w.cell? ⟨k, 1, none⟩ = some (.int .u64 0) ∧ Free w k
theorem Fresh.new (w : World) : Fresh (w.alloc (.cells #[.int .i64 0, .int .u64 0] 221)) w.heap.size := ⟨by simp [go_sem], by simp [go_sem], Free.new w _⟩
theorem Fresh.keeps {w w1 : World} {k : Nat} (h : Fresh w k) (hb : Go.RowKit.Below w.heap.size w w1) : Fresh w1 k := ⟨Go.Proofs.YtbahfelnbofjjaaGreatDoor.dec.keeps hb h.1, Go.Proofs.YtbahfelnbofjjaaGreatDoor.dec.keeps hb h.2.1, h.2.2.keeps hb⟩
theorem Fresh.put {w : World} {k : Nat} (h : Fresh w k) (b : Int) : Box ((w.setCell ⟨k, 0, none⟩ (.int .i64 (hi b))).setCell ⟨k, 1, none⟩ (.int .u64 (lo b))) k b := read2 h.1 h.2.1 _ _
def StA (w w' : World) (k : Nat) (a : Int) : Prop := Box w' k a ∧ Go.RowKit.Below w.heap.size w w'
theorem StA.out {w w' : World} {k : Nat} {a : Int} (h : StA w w' k a) : w'.cell? ⟨k, 0, none⟩ = some (.int .i64 (hi a)) ∧ w'.cell? ⟨k, 1, none⟩ = some (.int .u64 (lo a)) ∧ Go.RowKit.Below w.heap.size w w' := ⟨h.1.1, h.1.2, h.2⟩
theorem StA.next {w w1 w2 : World} {k : Nat} {a : Int} (h : StA w w1 k a) (hb : Go.RowKit.Below w1.heap.size w1 w2) : StA w w2 k a := ⟨h.1.keeps hb, bnext h.2 hb⟩
theorem StA.alloc {w w1 : World} {k : Nat} {a : Int} (h : StA w w1 k a) (o : Obj) : StA w (w1.alloc o) k a := ⟨h.1.past o, balloc h.2 o⟩
theorem StA.put {w w4 w5 : World} {k : Nat} {a : Int} (h4 : StA w w4 k a) (h : StA w w5 k a) (u v : Value) : StA w ((w5.setCell ⟨w4.heap.size, 0, none⟩ u).setCell ⟨w4.heap.size, 1, none⟩ v) k a :=
 ⟨h.1.off (by have := h4.1.lt; omega) u v, store2 h.2 h4.2.size u v⟩
end Go.Proofs.YtbahfelnbofjjaaGreatDoor.dec
namespace Go.Proofs.YtbahfelnbofjjaaGreatDoor.dec
open Go.RowKit Go.Shelf
end Go.Proofs.YtbahfelnbofjjaaGreatDoor.dec
namespace Go.Proofs.YtbahfelnbofjjaaGreatDoor.dec
open Go.RowKit Go.Shelf
theorem refInRange_any (x : Int) (w : World) : Calls Tryz.prog 275 #[.int .i64 x] w fun e w' => e = .returned (.bool (rg x)) ∧ w = w' := by
 by_cases h1 : -1152921504606846976 ≤ x
 ·by_cases h2 : x ≤ 1152921504606846976
  ·have e : Hid (rg x = true) := (rg_iff x).2 ⟨h1, h2⟩
   have c1 : decide (-1152921504606846976 ≤ x) = true := by simpa using h1
   have c2 : decide (x ≤ 1152921504606846976) = true := by simpa using h2
   go_enter Tryz.func275, Tryz.ntmps275
   go_wp2
   go_ret
   exact ⟨by rw [e.out]; rfl, rfl⟩
  ·have e : Hid (rg x = false) := (rg_no x).2 (by omega)
   have c1 : decide (-1152921504606846976 ≤ x) = true := by simpa using h1
   have c2 : decide (x ≤ 1152921504606846976) = false := by simp; omega
   go_enter Tryz.func275, Tryz.ntmps275
   go_wp2
   go_ret
   exact ⟨by rw [e.out]; rfl, rfl⟩
 ·have e : Hid (rg x = false) := (rg_no x).2 (by omega)
  have c1 : decide (-1152921504606846976 ≤ x) = false := by simp; omega
  go_enter Tryz.func275, Tryz.ntmps275
  go_wp2
  go_ret
  exact ⟨by rw [e.out]; rfl, rfl⟩
end Go.Proofs.YtbahfelnbofjjaaGreatDoor.dec
namespace Go.Proofs.YtbahfelnbofjjaaGreatDoor.dec
open Go.RowKit Go.Shelf
def wd (n d : Int) : Int := if 115292150460684697 < n then 1152921504606846977 else 10 * n + d
def byteAt (l : List UInt8) (i : Nat) : Int := ((l.getD i 0).toNat : Int)
def rd (l : List UInt8) : Nat → Nat → Int → Nat → Nat × Int × Nat
 | 0, i, n, p => (i, n, p)
 | k + 1, i, n, p =>
  if i < l.length then
   if 48 ≤ byteAt l i ∧ byteAt l i ≤ 57 then rd l k (i + 1) (wd n (byteAt l i - 48)) p
   else if byteAt l i = 46 ∧ p = l.length then rd l k (i + 1) n i
   else (i, n, p)
  else (i, n, p)
def rdEnd (len : Nat) (r : Nat × Int × Nat) : Int × Int × Bool :=
 if r.1 < len ∨ r.2.2 = 0 then (0, 0, false)
 else if r.2.2 = len then (r.2.1, 0, true)
 else if (len : Int) - r.2.2 - 1 < 1 ∨ 6 < (len : Int) - r.2.2 - 1 then (0, 0, false)
 else (r.2.1, (len : Int) - r.2.2 - 1, true)
def rdAll (l : List UInt8) : Int × Int × Bool := rdEnd l.length (rd l l.length 0 0 l.length)
end Go.Proofs.YtbahfelnbofjjaaGreatDoor.dec
namespace Go.Proofs.YtbahfelnbofjjaaGreatDoor.dec
open Go.RowKit Go.Shelf
def powTab : List Int := [1, 10, 100, 1000, 10000, 100000, 1000000]
theorem gPow : Tryz.prog.globalNamed "asof/decimal.powers" = some 2 := by kernel_rfl
def pmOf (l : List UInt8) : Int := (if Lib.hasPrefix l [45] then -(rdAll (Lib.trimPrefix l [45])).1 else (rdAll (Lib.trimPrefix l [45])).1) * powTab.getD (6 - (rdAll (Lib.trimPrefix l [45])).2.1).toNat 0
def paX (l : List UInt8) : Int := if (rdAll (Lib.trimPrefix l [45])).2.2 && rg (pmOf l) then pmOf l else 0
def paE (l : List UInt8) : Int := if (rdAll (Lib.trimPrefix l [45])).2.2 then (if rg (pmOf l) then 0 else 2) else 3
end Go.Proofs.YtbahfelnbofjjaaGreatDoor.dec
namespace Go.Proofs.YtbahfelnbofjjaaGreatDoor.dec
open Go.RowKit Go.Shelf Go.Sort Go.Lib
theorem holds_zero0 (w : World) (T : TypeId) (nd : Nat) (hs : nd ≤ 24) : Holds (fun (b : UInt8) => Value.int .u8 (b.toNat : Int)) (w.alloc (.cells Lib.zeros24 T)) w.heap.size 0 (Array.replicate nd (0 : UInt8)) := fun j hj => by
 have hj' : j < nd := by simpa using hj
 refine ⟨?_, World.frozen?_alloc_new _ _ _ _⟩
 rw [World.cell?_alloc_new, Lib.zeros24_at _ (by omega), getElem!_pos _ j hj]
 simp
theorem below_putRow (w : World) (o : Obj) (dk : Array UInt8) (k : Nat) : Below w.heap.size w ((putRow (fun (b : UInt8) => Value.int .u8 (b.toNat : Int)) (w.alloc o) w.heap.size 0 dk).drewN k) := by
 rw [alloc_eq_grow]
 obtain ⟨os', _, e⟩ := putRow_grow_new (fun (b : UInt8) => Value.int .u8 (b.toNat : Int)) w #[o] w.heap.size 0 dk (Nat.le_refl _)
 rw [e]
 have h : Below w.heap.size w (grow w os') := by
  exact below_regrown w w.drawn os'
 exact below_drewN' h k
theorem fmtIn_any (u : Nat) (hu64 : u < 18446744073709551616) (w : World) (htab : Lib.TabIs Tryz.prog w "internal/strconv.uint64pow10" .u64 Lib.pow10Tab) :
  Calls Tryz.prog 313 #[.int .u64 u, .int .i64 10] w fun e w' => e = .returned (.string ⟨(Lib.decDigits u).toArray⟩) ∧ Below w.heap.size w w' := by
 by_cases hs : u < 100
 ·go_enter Tryz.func313, Tryz.ntmps313
  go_wp2_with (go_at_call 232; refine (Tryz.internal_strconv_small u hs _).mono ?_; rintro e w' ⟨rfl, rfl⟩)
  go_ret
  exact ⟨rfl, b0 _⟩
 ·have hu1 : 1 ≤ u := by omega
  have hnd20 : Lib.nDigits u ≤ 20 := by have := Lib.numDigits_eq u hu1 hu64; split at this <;> omega
  have hb3 : Lib.nDigits u ≤ 24 := by omega
  have hal : Tryz.prog.arrayLen 235 = 24 := by kernel_rfl
  have hsl1 : ∀ W, (Instr.sliceAt 235 (.pointer (some ⟨w.heap.size, 0, none⟩)) none (some (.int .i64 (Lib.nDigits u : Int))) none).run Tryz.prog W = .ok (.slice (some ⟨w.heap.size, 0, none⟩) (Lib.nDigits u) 24) W := fun W => by
   rw [run_sliceAt_array_h W 235 ⟨w.heap.size, 0, none⟩ (by kernel_rfl) .i64 (Lib.nDigits u : Int) (by omega) (by rw [hal]; omega)]
   go_simp
  have hH0 := holds_zero0 w 235 (Lib.nDigits u) hb3
  have hfmt := Tryz.internal_strconv_formatBase10 w.heap.size 0 24 u (Array.replicate (Lib.nDigits u) 0) (w.alloc (.cells Lib.zeros24 235)) hH0 (by rw [Array.size_replicate]; exact Lib.lt_pow_nDigits u) hu64 (by rw [Array.size_replicate]; omega)
  rw [Array.size_replicate] at hfmt
  have HH0 := Lib.hid hH0
  clear hH0 hal
  go_enter Tryz.func313, Tryz.ntmps313
  go_wp2_with (first
   | (go_at_call 233; refine (Tryz.internal_strconv_numDigits u hu1 hu64 _ (Lib.tabIs_alloc htab _)).mono ?_; rintro e w' ⟨rfl, rfl⟩))
  go_at_call 234
  refine hfmt.mono ?_
  rintro e w' ⟨rfl, k, v', dk, rfl, hF⟩
  have hcv : (convert 56 9 (.slice (some ⟨w.heap.size, 0, none⟩) (Lib.nDigits u) 24)).run Tryz.prog ((putRow (fun (b : UInt8) => Value.int .u8 (b.toNat : Int)) (w.alloc (.cells Lib.zeros24 235)) w.heap.size 0 dk).drewN k) = .ok (.string ⟨(Lib.decDigits u).toArray⟩) ((putRow (fun (b : UInt8) => Value.int .u8 (b.toNat : Int)) (w.alloc (.cells Lib.zeros24 235)) w.heap.size 0 dk).drewN k) := by
   have h := run_convert_bytes_back (P := Tryz.prog) ((putRow (fun (b : UInt8) => Value.int .u8 (b.toNat : Int)) (w.alloc (.cells Lib.zeros24 235)) w.heap.size 0 dk).drewN k) 56 9 5 ⟨w.heap.size, 0, none⟩ 24 (Lib.decDigits u) Tryz.underlying56 Tryz.underlying5 Tryz.underlying9 (fun j hj => by
    rw [Lib.row_is_numeral hF j hj, Lib.add_plain, World.cell?_drewN]
    exact cell?_putRow (fun (b : UInt8) => Value.int .u8 (b.toNat : Int)) _ w.heap.size 0 _ dk HH0.out (by rw [hF.size, Array.size_replicate]) j (by rw [hF.size]; rw [Lib.decDigits_length] at hj; exact hj))
   rw [Lib.decDigits_length] at h
   exact h
  go_wp2
  go_ret
  exact ⟨rfl, below_putRow w _ dk k⟩
theorem fmt_any (u : Int) (h0 : 0 ≤ u) (h1 : u ≤ 18446744073709551615) (w : World) (htab : Lib.TabIs Tryz.prog w "internal/strconv.uint64pow10" .u64 Lib.pow10Tab) :
  Calls Tryz.prog 300 #[.int .u64 u, .int .i64 10] w fun e w' => e = .returned (.string ⟨(Lib.decDigits u.toNat).toArray⟩) ∧ Below w.heap.size w w' := by
 obtain ⟨n, rfl⟩ := Int.eq_ofNat_of_zero_le h0
 have CI := Lib.hid (fmtIn_any n (by omega) w htab)
 go_enter Tryz.func300, Tryz.ntmps300
 go_wp2_with fail
 refine CI.out.mono ?_
 rintro e w1 ⟨rfl, k1⟩
 go_wp2_with fail
 go_ret
 exact ⟨rfl, k1⟩
end Go.Proofs.YtbahfelnbofjjaaGreatDoor.dec
namespace Go.Proofs.YtbahfelnbofjjaaGreatDoor.dec
open Go.RowKit Go.Shelf Go.Sort Go.Lib
def foX (x : Int) : List UInt8 := (if x < 0 then [45] else []) ++ Lib.decDigits (x.natAbs / 1000000) ++ [46] ++ (Lib.decDigits (1000000 + x.natAbs % 1000000)).drop 1
theorem dig_len (u : Nat) (h : u < 18446744073709551616) : 1 ≤ (Lib.decDigits u).length ∧ (Lib.decDigits u).length ≤ 20 := by
 rw [Lib.decDigits_length]
 refine ⟨Lib.nDigits_pos u, ?_⟩
 by_cases hu : 1 ≤ u
 ·have := Lib.numDigits_eq u hu h; split at this <;> omega
 ·rw [Lib.nDigits_small (by omega)]; decide
theorem slice_one (l : List UInt8) (h : 1 ≤ l.length) (W : World) : (Instr.slice 9 (.string ⟨l.toArray⟩) (some (.int .i64 1)) none none).run Tryz.prog W = .ok (.string ⟨(l.drop 1).toArray⟩) W := by
 have e : (ByteArray.mk l.toArray).size = l.length := by show l.toArray.size = _; simp
 rw [run_slice_string_from_if W 9 ⟨l.toArray⟩ .i64 _ Tryz.underlying9, if_pos ⟨by omega, by rw [e]; omega⟩]
 congr 2
 apply ByteArray.ext
 apply Array.ext'
 rw [Lib.extract_data]
 simp only [e]
 show ((l.toArray.toList.drop 1).take (l.length - 1)) = _
 rw [List.take_of_length_le (by simp)]
theorem add_lists (x y : List UInt8) (hx : x.length ≤ 100) (hy : y.length ≤ 100) (W : World) : (Op.stringOp .add ⟨x.toArray⟩ ⟨y.toArray⟩).run Tryz.prog W = .ok (.string ⟨(x ++ y).toArray⟩) W := run_string_add_lists W x y (by omega) (by omega)
theorem abs_wrap {x : Int} (h1 : -9223372036854775808 ≤ x) (h2 : x ≤ 9223372036854775807) :
  (x < 0 → IntKind.u64.wrap (-IntKind.u64.wrap x) = (x.natAbs : Int)) ∧ (0 ≤ x → IntKind.u64.wrap x = (x.natAbs : Int)) := by
 rw [IntKind.wrap_u64, IntKind.wrap_u64]
 constructor
 ·intro h; omega
 ·intro h; omega
theorem tab_stays {w w' : World} {n : String} {k : IntKind} {zs : List Int} (h : Lib.TabIs Tryz.prog w n k zs) (hb : Below w.heap.size w w') : Lib.TabIs Tryz.prog w' n k zs := by
 unfold Lib.TabIs at *
 cases hg : Tryz.prog.globalNamed n with
 | none => unfold World.var? at h; simp [hg] at h
 | some g => exact Go.Joins.var_stays hg h hb (Nat.le_refl _)
theorem format_any (x : Int) (h1 : -9223372036854775808 ≤ x) (h2 : x ≤ 9223372036854775807) (w : World) (htab : Lib.TabIs Tryz.prog w "internal/strconv.uint64pow10" .u64 Lib.pow10Tab) :
  Calls Tryz.prog 269 #[.int .i64 x] w fun e w' => e = .returned (.string ⟨(foX x).toArray⟩) ∧ Below w.heap.size w w' := by
 have haw := abs_wrap h1 h2
 obtain ⟨u, hu⟩ : ∃ u : Nat, u = x.natAbs := ⟨_, rfl⟩
 have hu64 : u ≤ 9223372036854775808 := by omega
 have hf : Hid (foX x = (if x < 0 then [45] else []) ++ Lib.decDigits (u / 1000000) ++ [46] ++ (Lib.decDigits (1000000 + u % 1000000)).drop 1) := by unfold Hid foX; rw [← hu]
 rw [← hu] at haw
 have CA := Lib.hid (fmt_any ((1000000 + u % 1000000 : Nat) : Int) (by omega) (by omega) w htab)
 have CB := Lib.hid (fun w' hb => fmt_any ((u / 1000000 : Nat) : Int) (by omega) (by omega) w' (tab_stays htab hb))
 have la := dig_len (1000000 + u % 1000000) (by omega)
 have lb := dig_len (u / 1000000) (by omega)
 have e1 : (((1000000 + u % 1000000 : Nat) : Int)).toNat = 1000000 + u % 1000000 := by omega
 have e2 : (((u / 1000000 : Nat) : Int)).toNat = u / 1000000 := by omega
 rw [e1] at CA
 rw [e2] at CB
 clear e1 e2 hu
 generalize Lib.decDigits (1000000 + u % 1000000) = a at *
 generalize Lib.decDigits (u / 1000000) = b at *
 have hsl := slice_one a la.1
 have q1 : ((1000000 + u % 1000000 : Nat) : Int) = 1000000 + (u : Int) % 1000000 := by omega
 have q2 : ((u / 1000000 : Nat) : Int) = (u : Int) / 1000000 := by omega
 rw [q1] at CA
 rw [q2] at CB
 clear q1 q2
 have hl3 : (a.drop 1).length ≤ 20 := by simp; omega
 generalize a.drop 1 = c at *
 by_cases hx : x < 0
 ·have hw := haw.1 hx
  obtain ⟨d1, hd1⟩ : ∃ d1 : List UInt8, d1 = [45] ++ b := ⟨_, rfl⟩
  obtain ⟨d2, hd2⟩ : ∃ d2 : List UInt8, d2 = d1 ++ [46] := ⟨_, rfl⟩
  obtain ⟨d3, hd3⟩ : ∃ d3 : List UInt8, d3 = d2 ++ c := ⟨_, rfl⟩
  have l1 : d1.length ≤ 21 := by rw [hd1]; simp; omega
  have l2 : d2.length ≤ 22 := by rw [hd2]; simp; omega
  have p1 : ∀ W, (Op.stringOp .add ⟨#[45]⟩ ⟨b.toArray⟩).run Tryz.prog W = .ok (.string ⟨d1.toArray⟩) W := fun W => by rw [hd1]; exact add_lists [45] b (by simp) (by omega) W
  have p2 : ∀ W, (Op.stringOp .add ⟨d1.toArray⟩ ⟨#[46]⟩).run Tryz.prog W = .ok (.string ⟨d2.toArray⟩) W := fun W => by rw [hd2]; exact add_lists d1 [46] (by omega) (by simp) W
  have p3 : ∀ W, (Op.stringOp .add ⟨d2.toArray⟩ ⟨c.toArray⟩).run Tryz.prog W = .ok (.string ⟨d3.toArray⟩) W := fun W => by rw [hd3]; exact add_lists d2 c (by omega) (by omega) W
  have hf2 : Hid (foX x = d3) := by unfold Hid; rw [hf.out, if_pos hx, hd3, hd2, hd1]
  clear hf haw hd1 hd2 hd3
  go_enter Tryz.func269, Tryz.ntmps269
  go_wp2_with fail
  refine CA.out.mono ?_
  rintro e w1 ⟨rfl, k1⟩
  go_wp2_with fail
  refine (CB.out _ k1).mono ?_
  rintro e w2 ⟨rfl, k2⟩
  replace k2 := bnext k1 k2
  go_wp2_with fail
  go_ret
  exact ⟨by rw [hf2.out]; rfl, k2⟩
 ·have hw := haw.2 (by omega)
  obtain ⟨d1, hd1⟩ : ∃ d1 : List UInt8, d1 = [] ++ b := ⟨_, rfl⟩
  obtain ⟨d2, hd2⟩ : ∃ d2 : List UInt8, d2 = d1 ++ [46] := ⟨_, rfl⟩
  obtain ⟨d3, hd3⟩ : ∃ d3 : List UInt8, d3 = d2 ++ c := ⟨_, rfl⟩
  have l1 : d1.length ≤ 21 := by rw [hd1]; simp; omega
  have l2 : d2.length ≤ 22 := by rw [hd2]; simp; omega
  have p1 : ∀ W, (Op.stringOp .add ⟨#[]⟩ ⟨b.toArray⟩).run Tryz.prog W = .ok (.string ⟨d1.toArray⟩) W := fun W => by rw [hd1]; exact add_lists [] b (by simp) (by omega) W
  have p2 : ∀ W, (Op.stringOp .add ⟨d1.toArray⟩ ⟨#[46]⟩).run Tryz.prog W = .ok (.string ⟨d2.toArray⟩) W := fun W => by rw [hd2]; exact add_lists d1 [46] (by omega) (by simp) W
  have p3 : ∀ W, (Op.stringOp .add ⟨d2.toArray⟩ ⟨c.toArray⟩).run Tryz.prog W = .ok (.string ⟨d3.toArray⟩) W := fun W => by rw [hd3]; exact add_lists d2 c (by omega) (by omega) W
  have hf2 : Hid (foX x = d3) := by unfold Hid; rw [hf.out, if_neg hx, hd3, hd2, hd1]
  clear hf haw hd1 hd2 hd3
  go_enter Tryz.func269, Tryz.ntmps269
  go_wp2_with fail
  refine CA.out.mono ?_
  rintro e w1 ⟨rfl, k1⟩
  go_wp2_with fail
  refine (CB.out _ k1).mono ?_
  rintro e w2 ⟨rfl, k2⟩
  replace k2 := bnext k1 k2
  go_wp2_with fail
  go_ret
  exact ⟨by rw [hf2.out]; rfl, k2⟩
end Go.Proofs.YtbahfelnbofjjaaGreatDoor.dec
namespace Go.Proofs.YtbahfelnbofjjaaGreatDoor
open dec
def dval (a : Nat) (l : List UInt8) : Nat := l.foldl (fun a c => a * 10 + (c.toNat - 48)) a
def isD (c : UInt8) : Bool := decide (48 ≤ c.toNat) && decide (c.toNat ≤ 57)
theorem isD_iff (c : UInt8) : isD c = true ↔ 48 ≤ c.toNat ∧ c.toNat ≤ 57 := by unfold isD; rw [Bool.and_eq_true, decide_eq_true_eq, decide_eq_true_eq]
theorem dval_cons (a : Nat) (c : UInt8) (l : List UInt8) : dval a (c :: l) = dval (a * 10 + (c.toNat - 48)) l := by unfold dval; rw [List.foldl_cons]
theorem dval_append (a : Nat) (l r : List UInt8) : dval a (l ++ r) = dval (dval a l) r := by unfold dval; rw [List.foldl_append]
theorem dval_ge : ∀ (l : List UInt8) (a : Nat), a ≤ dval a l
 | [], a => Nat.le_refl a
 | c :: l, a => by
  have := dval_ge l (a * 10 + (c.toNat - 48))
  rw [dval_cons]
  omega
theorem dig_nat {d : Nat} (h : d < 10) : (UInt8.ofNat (48 + d)).toNat = 48 + d := by
 rw [UInt8.toNat_ofNat']
 omega
theorem dec_dval (u : Nat) : dval 0 (Lib.decDigits u) = u := by
 induction u using Nat.strongRecOn with
 | _ u ih =>
  by_cases h : u < 10
  ·rw [Lib.decDigits, dif_pos h, dval_cons, dig_nat h]
   show 0 * 10 + (48 + u - 48) = u
   omega
  ·rw [Lib.decDigits, dif_neg h, dval_append, ih (u / 10) (by omega), dval_cons, dig_nat (by omega)]
   show u / 10 * 10 + (48 + u % 10 - 48) = u
   omega
theorem dec_isD (u : Nat) : ∀ c ∈ Lib.decDigits u, isD c = true := by
 induction u using Nat.strongRecOn with
 | _ u ih =>
  intro c hc
  by_cases h : u < 10
  ·rw [Lib.decDigits, dif_pos h, List.mem_singleton] at hc
   subst hc
   rw [isD_iff, dig_nat h]
   omega
  ·rw [Lib.decDigits, dif_neg h, List.mem_append, List.mem_singleton] at hc
   rcases hc with hc | hc
   ·exact ih (u / 10) (by omega) c hc
   ·subst hc
    rw [isD_iff, dig_nat (by omega)]
    omega
theorem dec_cons (u : Nat) : ∃ c r, Lib.decDigits u = c :: r := by
 have h : (Lib.decDigits u).length = Lib.nDigits u := Lib.decDigits_length u
 have := Lib.nDigits_pos u
 cases hd : Lib.decDigits u with
 | nil => rw [hd] at h; simp at h; omega
 | cons c r => exact ⟨c, r, rfl⟩
theorem dg_nat (u j : Nat) : (Lib.dg u j).toNat = 48 + u / 10 ^ j % 10 := dig_nat (by omega)
theorem dg_isD (u j : Nat) : isD (Lib.dg u j) = true := by rw [isD_iff, dg_nat]; omega
def frac (u : Nat) : List UInt8 := [Lib.dg u 5, Lib.dg u 4, Lib.dg u 3, Lib.dg u 2, Lib.dg u 1, Lib.dg u 0]
theorem frac_eq {r : Nat} (h : r < 1000000) : (Lib.decDigits (1000000 + r)).drop 1 = frac (1000000 + r) := by
 have hn : Lib.nDigits (1000000 + r) = 7 := Lib.nDigits_unique 6 _ (by omega) (by omega)
 rw [Lib.decDigits_eq, hn]
 rfl
theorem dg_mod (u j : Nat) (hj : j < 6) : Lib.dg (1000000 + u % 1000000) j = Lib.dg u j := by
 unfold Lib.dg
 congr 2
 obtain rfl | rfl | rfl | rfl | rfl | rfl : j = 0 ∨ j = 1 ∨ j = 2 ∨ j = 3 ∨ j = 4 ∨ j = 5 := by omega
 all_goals omega
theorem frac_mod (u : Nat) : frac (1000000 + u % 1000000) = frac u := by
 unfold frac
 rw [dg_mod u 5 (by omega), dg_mod u 4 (by omega), dg_mod u 3 (by omega), dg_mod u 2 (by omega), dg_mod u 1 (by omega), dg_mod u 0 (by omega)]
theorem frac_dval (u q : Nat) : dval q (frac u) = q * 1000000 + u % 1000000 := by
 unfold frac dval
 simp only [List.foldl_cons, List.foldl_nil, dg_nat]
 have h5 : (10 : Nat) ^ 5 = 100000 := rfl
 have h4 : (10 : Nat) ^ 4 = 10000 := rfl
 have h3 : (10 : Nat) ^ 3 = 1000 := rfl
 have h2 : (10 : Nat) ^ 2 = 100 := rfl
 have h1 : (10 : Nat) ^ 1 = 10 := rfl
 have h0 : (10 : Nat) ^ 0 = 1 := rfl
 rw [h5, h4, h3, h2, h1, h0]
 omega
theorem frac_isD (u : Nat) : ∀ c ∈ frac u, isD c = true := by
 intro c hc
 simp only [frac, List.mem_cons, List.not_mem_nil, or_false] at hc
 rcases hc with h | h | h | h | h | h <;> (subst h; exact dg_isD _ _)
theorem frac_len (u : Nat) : (frac u).length = 6 := rfl
def bod (u : Nat) : List UInt8 := Lib.decDigits (u / 1000000) ++ 46 :: frac u
theorem fo_eq (x : Int) : foX x = (if x < 0 then [45] else []) ++ bod x.natAbs := by
 unfold foX bod
 rw [frac_eq (Nat.mod_lt _ (by decide)), frac_mod]
 simp only [List.append_assoc, List.cons_append, List.nil_append]
def atoiN (l : List UInt8) : Int :=
 match Lib.atoiAll l with
 | .ok v => v
 | Lib.NumEnd.syntax => 0
 | .range => Lib.atoiSat l
theorem byte_of_drop {l r : List UInt8} {i : Nat} {c : UInt8} (h : l.drop i = c :: r) : i < l.length ∧ byteAt l i = (c.toNat : Int) ∧ l.drop (i + 1) = r := by
 have hi : i < l.length := by
  rcases Nat.lt_or_ge i l.length with h0 | h0
  ·exact h0
  ·rw [List.drop_eq_nil_of_le h0] at h; cases h
 rw [List.drop_eq_getElem_cons hi] at h
 injection h with h1 h2
 refine ⟨hi, ?_, h2⟩
 unfold byteAt
 rw [List.getD_eq_getElem?_getD, List.getElem?_eq_getElem hi, h1]
 rfl
theorem rd_digits (l : List UInt8) : ∀ (ds r : List UInt8) (k i a p : Nat), l.drop i = ds ++ r → (∀ c ∈ ds, isD c = true) → dval a ds ≤ 1152921504606846976 →
  dec.rd l (k + ds.length) i (a : Int) p = dec.rd l k (i + ds.length) ((dval a ds : Nat) : Int) p
 | [], r, k, i, a, p, _, _, _ => rfl
 | c :: ds, r, k, i, a, p, h, hd, hv => by
  obtain ⟨hi, hb, hr⟩ := byte_of_drop h
  have hc := (isD_iff c).1 (hd c (List.mem_cons_self ..))
  rw [dval_cons] at hv
  have hg := dval_ge ds (a * 10 + (c.toNat - 48))
  have hw : wd (a : Int) (byteAt l i - 48) = ((a * 10 + (c.toNat - 48) : Nat) : Int) := by
   unfold wd
   rw [if_neg (by omega), hb]
   omega
  rw [List.length_cons, ← Nat.add_assoc, dec.rd, if_pos hi, if_pos (by rw [hb]; omega), hw, rd_digits l ds r k (i + 1) _ p hr (fun d hd' => hd d (List.mem_cons_of_mem _ hd')) hv, dval_cons, Nat.add_assoc, Nat.add_comm 1]
theorem rdAll_bod {u : Nat} (hu : u ≤ 1152921504606846976) : rdAll (bod u) = ((u : Int), 6, true) := by
 obtain ⟨D, hD⟩ : ∃ D, D = Lib.decDigits (u / 1000000) := ⟨_, rfl⟩
 have hlen : (bod u).length = D.length + 7 := by unfold bod; rw [← hD]; simp [frac_len]
 have hpos : 1 ≤ D.length := by rw [hD, Lib.decDigits_length]; exact Lib.nDigits_pos _
 have hb : bod u = D ++ 46 :: frac u := by rw [hD]; rfl
 have hv : dval 0 D = u / 1000000 := by rw [hD]; exact dec_dval _
 have hf : dval (u / 1000000) (frac u) = u := by rw [frac_dval]; omega
 unfold rdAll
 have s1 := rd_digits (bod u) D (46 :: frac u) 7 0 0 (bod u).length (by rw [hb]; rfl) (by rw [hD]; exact dec_isD _) (by rw [hv]; omega)
 rw [hv, Nat.zero_add] at s1
 have hdr : (bod u).drop D.length = 46 :: frac u := by rw [hb, List.drop_left]
 obtain ⟨h1, h2, h3⟩ := byte_of_drop hdr
 have e46 : byteAt (bod u) D.length = 46 := by rw [h2]; rfl
 have s2 : dec.rd (bod u) 7 D.length ((u / 1000000 : Nat) : Int) (bod u).length = dec.rd (bod u) 6 (D.length + 1) ((u / 1000000 : Nat) : Int) D.length := by
  rw [show 7 = 6 + 1 from rfl, dec.rd, if_pos h1, if_neg (by omega), if_pos ⟨e46, rfl⟩]
 have s3 := rd_digits (bod u) (frac u) [] 0 (D.length + 1) (u / 1000000) D.length (by rw [h3, List.append_nil]) (frac_isD u) (by rw [hf]; exact hu)
 rw [hf, frac_len, Nat.zero_add] at s3
 have s4 : dec.rd (bod u) (bod u).length 0 0 (bod u).length = (D.length + 7, (u : Int), D.length) := by
  rw [show dec.rd (bod u) (bod u).length 0 0 (bod u).length = dec.rd (bod u) (7 + D.length) 0 ((0 : Nat) : Int) (bod u).length by rw [hlen, Nat.add_comm]; rfl, s1, s2, s3]
  rfl
 rw [s4]
 unfold rdEnd
 simp only
 rw [hlen, if_neg (by omega), if_neg (by omega), if_neg (by omega)]
 congr 2
 omega
theorem bod_cons (u : Nat) : ∃ c r, bod u = c :: r ∧ isD c = true := by
 obtain ⟨c, r, h⟩ := dec_cons (u / 1000000)
 exact ⟨c, r ++ 46 :: frac u, by unfold bod; rw [h]; rfl, dec_isD _ c (by rw [h]; exact List.mem_cons_self ..)⟩
theorem pre_minus (l : List UInt8) : Lib.hasPrefix (45 :: l) [45] = true ∧ Lib.trimPrefix (45 :: l) [45] = l := by
 constructor
 ·simp [Lib.hasPrefix, List.isPrefixOf]
 ·simp [Lib.trimPrefix, Lib.hasPrefix, List.isPrefixOf]
theorem pre_other {c : UInt8} (h : c ≠ 45) (l : List UInt8) : Lib.hasPrefix (c :: l) [45] = false ∧ Lib.trimPrefix (c :: l) [45] = c :: l := by
 have e : ((45 : UInt8) == c) = false := by rw [beq_eq_false_iff_ne]; exact fun h' => h h'.symm
 have h1 : Lib.hasPrefix (c :: l) [45] = false := by simp [Lib.hasPrefix, List.isPrefixOf, e]
 exact ⟨h1, by unfold Lib.trimPrefix; rw [h1]; rfl⟩
theorem ne_of_toNat {c : UInt8} {n : Nat} (hn : n < 256) (h : c.toNat ≠ n) : c ≠ UInt8.ofNat n := by
 intro e
 subst e
 apply h
 rw [UInt8.toNat_ofNat']
 omega
theorem pa_fo {x : Int} (h1 : -1152921504606846976 ≤ x) (h2 : x ≤ 1152921504606846976) : paX (foX x) = x ∧ paE (foX x) = 0 := by
 have hr := (rg_iff x).2 ⟨h1, h2⟩
 have hall := rdAll_bod (u := x.natAbs) (by omega)
 have hpm : Lib.trimPrefix (foX x) [45] = bod x.natAbs ∧ pmOf (foX x) = x := by
  rw [fo_eq]
  by_cases hx : x < 0
  ·rw [if_pos hx, List.singleton_append]
   obtain ⟨p1, p2⟩ := pre_minus (bod x.natAbs)
   refine ⟨p2, ?_⟩
   unfold pmOf
   rw [p1, p2, hall]
   simp [powTab]
   omega
  ·rw [if_neg hx, List.nil_append]
   obtain ⟨c, r, hcr, hc⟩ := bod_cons x.natAbs
   rw [isD_iff] at hc
   have hne : c ≠ 45 := ne_of_toNat (n := 45) (by decide) (by omega)
   rw [hcr]
   obtain ⟨p1, p2⟩ := pre_other hne r
   refine ⟨p2, ?_⟩
   unfold pmOf
   rw [p1, p2, ← hcr, hall]
   simp [powTab]
   omega
 unfold paX paE
 rw [hpm.1, hpm.2, hall, hr]
 exact ⟨rfl, rfl⟩
end Go.Proofs.YtbahfelnbofjjaaGreatDoor
namespace Go.Proofs.YtbahfelnbofjjaaGreatDoor
open dec
end Go.Proofs.YtbahfelnbofjjaaGreatDoor
namespace Go.Proofs.YtbahfelnbofjjaaGreatDoor
open dec
structure Va where
 k : Int
 n : Int
 s : ByteArray
theorem Va.ext' {a b : Va} (h1 : a.k = b.k) (h2 : a.n = b.n) (h3 : a.s = b.s) : a = b := by cases a; cases b; simp_all
instance : DecidableEq Va := fun a b => decidable_of_iff (a.k = b.k ∧ a.n = b.n ∧ a.s = b.s) ⟨fun h => Va.ext' h.1 h.2.1 h.2.2, fun h => by subst h; exact ⟨rfl, rfl, rfl⟩⟩
def okB (lo : Nat) (c : UInt8) : Bool := decide (lo ≤ c.toNat) && decide (c.toNat ≤ 126) && !decide (c.toNat = 34) && !decide (c.toNat = 92)
def pB (lo : Nat) (l : List UInt8) : Bool := l.all (okB lo)
def fmd (v : Va) : Bool :=
 if v.k = 0 then decide (v.n = 0) && decide (v.s.size = 0)
 else if v.k = 1 then (decide (v.n = 0) || decide (v.n = 1)) && decide (v.s.size = 0)
 else if v.k = 2 ∨ v.k = 3 then decide (v.s.size = 0)
 else if v.k = 4 ∨ v.k = 5 then decide (v.n = 0)
 else false
def lmt (v : Va) : Bool :=
 if v.k = 2 ∨ v.k = 3 then rg v.n
 else if v.k = 4 then decide (v.s.size ≤ 64)
 else if v.k = 5 then decide (v.s.size ≤ 32)
 else true
def spl (v : Va) : Bool :=
 if v.k = 4 then pB 32 v.s.data.toList
 else if v.k = 5 then !decide (v.s.size = 0) && pB 33 v.s.data.toList
 else true
def ck (v : Va) : Int := if fmd v then (if lmt v then (if spl v then 0 else 3) else 2) else 1
def ok (v : Va) : Bool := decide (ck v = 0)
theorem ok_iff (v : Va) : ok v = true ↔ fmd v = true ∧ lmt v = true ∧ spl v = true := by
 unfold ok ck
 cases fmd v <;> cases lmt v <;> cases spl v <;> simp
theorem ck_ok {v : Va} (h : ok v = true) : ck v = 0 := by unfold ok at h; exact of_decide_eq_true h
theorem size_zero {s : ByteArray} (h : s.size = 0) : s = .empty := by
 cases s with
 | mk d =>
  have : d.size = 0 := h
  rw [Array.eq_empty_of_size_eq_zero this]
  rfl
theorem ok_cases {v : Va} (h : ok v = true) : v = ⟨0, 0, .empty⟩ ∨ v = ⟨1, 0, .empty⟩ ∨ v = ⟨1, 1, .empty⟩ ∨ (∃ n, v = ⟨2, n, .empty⟩ ∧ -1152921504606846976 ≤ n ∧ n ≤ 1152921504606846976) ∨ (∃ n, v = ⟨3, n, .empty⟩ ∧ -1152921504606846976 ≤ n ∧ n ≤ 1152921504606846976) ∨
  (∃ s, v = ⟨4, 0, s⟩ ∧ s.size ≤ 64 ∧ pB 32 s.data.toList = true) ∨ ∃ s, v = ⟨5, 0, s⟩ ∧ 1 ≤ s.size ∧ s.size ≤ 32 ∧ pB 33 s.data.toList = true := by
 obtain ⟨h1, h2, h3⟩ := (ok_iff v).1 h
 obtain ⟨k, n, s⟩ := v
 unfold fmd lmt spl at *
 simp only at h1 h2 h3
 by_cases k0 : k = 0
 ·subst k0
  simp at h1
  exact .inl (Va.ext' rfl h1.1 h1.2)
 by_cases k1 : k = 1
 ·subst k1
  simp at h1
  rcases h1.1 with e | e
  ·exact .inr (.inl (Va.ext' rfl e h1.2))
  ·exact .inr (.inr (.inl (Va.ext' rfl e h1.2)))
 by_cases k2 : k = 2
 ·subst k2
  simp [rg_iff] at h1 h2
  exact .inr (.inr (.inr (.inl ⟨n, Va.ext' rfl rfl h1, h2.1, h2.2⟩)))
 by_cases k3 : k = 3
 ·subst k3
  simp [rg_iff] at h1 h2
  exact .inr (.inr (.inr (.inr (.inl ⟨n, Va.ext' rfl rfl h1, h2.1, h2.2⟩))))
 by_cases k4 : k = 4
 ·subst k4
  simp at h1 h2 h3
  exact .inr (.inr (.inr (.inr (.inr (.inl ⟨s, Va.ext' rfl h1 rfl, h2, h3⟩)))))
 by_cases k5 : k = 5
 ·subst k5
  simp at h1 h2 h3
  exact .inr (.inr (.inr (.inr (.inr (.inr ⟨s, Va.ext' rfl h1 rfl, Nat.pos_of_ne_zero fun h => h3.1 (size_zero h), h2, h3.2⟩)))))
 ·simp [k0, k1, k2, k3, k4, k5] at h1
theorem ok_text {s : ByteArray} (h1 : s.size ≤ 64) (h2 : pB 32 s.data.toList = true) : ok ⟨4, 0, s⟩ = true := by rw [ok_iff]; simp [fmd, lmt, spl, h1, h2]
theorem ok_int {n : Int} (h1 : -1152921504606846976 ≤ n) (h2 : n ≤ 1152921504606846976) : ok ⟨2, n, .empty⟩ = true := by
 rw [ok_iff]
 have := (rg_iff n).2 ⟨h1, h2⟩
 simp [fmd, lmt, spl, this]
theorem ok_dec {n : Int} (h1 : -1152921504606846976 ≤ n) (h2 : n ≤ 1152921504606846976) : ok ⟨3, n, .empty⟩ = true := by
 rw [ok_iff]
 have := (rg_iff n).2 ⟨h1, h2⟩
 simp [fmd, lmt, spl, this]
def fmV (v : Va) : List UInt8 :=
 if v.k = 1 then (if v.n = 1 then [116, 114, 117, 101] else [102, 97, 108, 115, 101])
 else if v.k = 2 then Lib.itoa v.n
 else if v.k = 3 then foX v.n
 else if v.k = 4 then 34 :: (v.s.data.toList ++ [34])
 else if v.k = 5 then 64 :: v.s.data.toList
 else [110, 117, 108, 108]
def fm (v : Va) : List UInt8 := if ok v then fmV v else []
theorem fo_head (n : Int) : ∃ c r, foX n = c :: r ∧ (c = 45 ∨ isD c = true) ∧ 46 ∈ r := by
 rw [fo_eq]
 obtain ⟨c, r, e⟩ := dec_cons (n.natAbs / 1000000)
 have hc := dec_isD (n.natAbs / 1000000) c (by rw [e]; exact List.mem_cons_self ..)
 by_cases h : n < 0
 ·rw [if_pos h]; exact ⟨45, bod n.natAbs, rfl, .inl rfl, by unfold bod; simp⟩
 ·rw [if_neg h]; exact ⟨c, r ++ 46 :: frac n.natAbs, by unfold bod; rw [e]; rfl, .inr hc, by simp⟩
theorem ba_list (s : ByteArray) : (⟨s.data.toList.toArray⟩ : ByteArray) = s := rfl
theorem fm_ok {v : Va} (h : ok v = true) : fm v = fmV v := by unfold fm; rw [if_pos h]
theorem fm_no {v : Va} (h : ok v = false) : fm v = [] := by unfold fm; rw [h]; rfl
end Go.Proofs.YtbahfelnbofjjaaGreatDoor
namespace Go.Proofs.YtbahfelnbofjjaaGreatDoor
def cI (x y : Int) : Int := Lib.compareInt x y
theorem less_irr : ∀ (l : List UInt8), Op.bytesLess l l = false
 | [] => rfl
 | a :: x => by rw [Op.bytesLess, less_irr x]; simp
theorem u8_lt {a b : UInt8} : (a < b) = (a.toNat < b.toNat) := rfl
theorem u8_eq {a b : UInt8} : (a = b) = (a.toNat = b.toNat) := propext ⟨fun h => by rw [h], fun h => UInt8.toNat_inj.1 h⟩
theorem less_cons (a b : UInt8) (x y : List UInt8) : Op.bytesLess (a :: x) (b :: y) = true ↔ a.toNat < b.toNat ∨ (a.toNat = b.toNat ∧ Op.bytesLess x y = true) := by
 rw [Op.bytesLess, Bool.or_eq_true, Bool.and_eq_true, decide_eq_true_eq, beq_iff_eq, u8_lt, u8_eq]
theorem less_tr : ∀ (x y z : List UInt8), Op.bytesLess x y = true → Op.bytesLess y z = true → Op.bytesLess x z = true
 | [], [], z, h, _ => by cases h
 | [], b :: y, [], _, h => by cases h
 | [], b :: y, c :: z, _, _ => rfl
 | a :: x, [], z, h, _ => by cases h
 | a :: x, b :: y, [], _, h => by cases h
 | a :: x, b :: y, c :: z, h1, h2 => by
  rw [less_cons] at *
  rcases h1 with h1 | ⟨h1, h1'⟩ <;> rcases h2 with h2 | ⟨h2, h2'⟩
  ·omega
  ·omega
  ·omega
  ·exact .inr ⟨by omega, less_tr x y z h1' h2'⟩
theorem less_tri : ∀ (x y : List UInt8), Op.bytesLess x y = false → x ≠ y → Op.bytesLess y x = true
 | [], [], _, h => absurd rfl h
 | [], b :: y, h, _ => by cases h
 | a :: x, [], _, _ => rfl
 | a :: x, b :: y, h, hne => by
  have h' : ¬ Op.bytesLess (a :: x) (b :: y) = true := by rw [h]; decide
  rw [less_cons] at h' ⊢
  by_cases e : a.toNat = b.toNat
  ·refine .inr ⟨e.symm, less_tri x y ?_ ?_⟩
   ·cases hx : Op.bytesLess x y
    ·rfl
    ·exact absurd (.inr ⟨e, hx⟩) h'
   ·intro hxy
    apply hne
    rw [hxy, UInt8.toNat_inj.1 e]
  ·exact .inl (by omega)
theorem toList_inj {a b : ByteArray} (h : a.toList = b.toList) : a = b := by
 rw [ByteArray.toList_eq, ByteArray.toList_eq] at h
 cases a; cases b
 simp only at h
 rw [Array.toList_inj.1 h]
end Go.Proofs.YtbahfelnbofjjaaGreatDoor
namespace Go.Proofs.YtbahfelnbofjjaaGreatDoor
open Go.RowKit dec
def clsTab : List Int := [0, 0, 0, 0, 0, 0, 0, 0, 0, 1, 2, 0, 0, 1, 0, 0, 0, 0, 0, 0, 0, 0, 0, 0, 0, 0, 0, 0, 0, 0, 0, 0, 1, 0, 7, 3, 0, 0, 0, 0, 8, 8, 8, 8, 8, 8, 0, 8, 5, 5, 5, 5, 5, 5, 5, 5, 5, 5, 8, 8, 8, 8, 0, 0, 8, 0, 0, 0, 0, 0, 0, 0, 0, 0, 0, 0, 0, 0, 0, 0, 0, 0, 0, 0, 0, 0, 0, 0, 0, 0, 0, 8, 0, 8, 8, 6, 0, 4, 4, 4, 4, 4, 4, 4, 4, 4, 4, 4, 4, 4, 4, 4, 4, 4, 4, 4, 4, 4, 4, 4, 4, 4, 4, 8, 0, 8]
structure Tabs (w : World) : Prop where
 pow : Lib.TabIs Tryz.prog w "asof/decimal.powers" .i64 powTab
 ten : Lib.TabIs Tryz.prog w "internal/strconv.uint64pow10" .u64 Lib.pow10Tab
 syn : ∃ tp p, w.var? Tryz.prog "strconv.ErrSyntax" = some #[.iface tp p]
 ran : ∃ tp p, w.var? Tryz.prog "strconv.ErrRange" = some #[.iface tp p]
 cls : Lib.TabIs Tryz.prog w "asof/lexer.classes" .u8 clsTab
theorem gCls : Tryz.prog.globalNamed "asof/lexer.classes" = some 1 := by kernel_rfl
theorem gSyn : Tryz.prog.globalNamed "strconv.ErrSyntax" = some 7 := by kernel_rfl
theorem gRan : Tryz.prog.globalNamed "strconv.ErrRange" = some 8 := by kernel_rfl
theorem Tabs.stays {w w' : World} (h : Tabs w) (hb : Below w.heap.size w w') : Tabs w' := by
 obtain ⟨tp, p, h1⟩ := h.syn
 obtain ⟨tq, q, h2⟩ := h.ran
 exact ⟨tab_stays h.pow hb, tab_stays h.ten hb, ⟨tp, p, Go.Joins.var_stays gSyn h1 hb (Nat.le_refl _)⟩, ⟨tq, q, Go.Joins.var_stays gRan h2 hb (Nat.le_refl _)⟩, tab_stays h.cls hb⟩
theorem below_bytes (w : World) (e : TypeId) (s : ByteArray) : Below w.heap.size w (Lib.bytesWorld w e s) := by
 refine ⟨rfl, rfl, rfl, ?_, fun j hj => Lib.bytesWorld_at_old w e s j hj⟩
 rw [Lib.bytesWorld_size]
 omega
end Go.Proofs.YtbahfelnbofjjaaGreatDoor
namespace Go.Proofs.YtbahfelnbofjjaaGreatDoor
open dec
def run (p : UInt8 → Bool) : List UInt8 → Nat
 | [] => 0
 | c :: r => if p c = true then run p r + 1 else 0
def isL (c : UInt8) : Bool := decide (97 ≤ c.toNat) && decide (c.toNat ≤ 122)
def isB (c : UInt8) : Bool := decide (c.toNat = 9) || decide (c.toNat = 10) || decide (c.toNat = 13) || decide (c.toNat = 32)
def isW (c : UInt8) : Bool := isL c || isD c || decide (c.toNat = 95)
def isC (c : UInt8) : Bool := !decide (c.toNat = 10)
def isQ (c : UInt8) : Bool := !decide (c.toNat = 34) && !decide (c.toNat = 10)
def isS (c : UInt8) : Bool := decide (c.toNat ∈ [123, 125, 40, 41, 91, 93, 44, 58, 59, 61, 60, 43, 45, 42, 47, 94, 64])
def sk : Bool → List UInt8 → Nat
 | _, [] => 0
 | m, c :: r => if ((m && isC c) || isB c || decide (c.toNat = 35)) = true then sk (isC c && (m || decide (c.toNat = 35))) r + 1 else 0
def sgn : List UInt8 → Int × Nat
 | [] => (0, 0)
 | c :: r => if (c.toNat = 61 ∨ c.toNat = 33 ∨ c.toNat = 60) ∧ r.head? = some 61 then (5, 2) else if isS c = true then (5, 1) else (0, 1)
def pnt : List UInt8 → Nat
 | [] => 0
 | c :: r => if c.toNat = 46 then run isD r else 0
def shp : List UInt8 → Int × Nat
 | [] => (0, 0)
 | c :: r =>
  if isL c = true then (1, run isW (c :: r))
  else if isD c = true then
   (if pnt ((c :: r).drop (run isD (c :: r))) = 0 then (2, run isD (c :: r)) else (3, run isD (c :: r) + 1 + pnt ((c :: r).drop (run isD (c :: r)))))
  else if c.toNat = 34 ∧ (r.drop (run isQ r)).head? = some 34 then (4, run isQ r + 2)
  else sgn (c :: r)
def cont (k : Int) (p : List UInt8) : List UInt8 := if k = 4 then (p.drop 1).take (p.length - 2) else p
def txE (s : List UInt8) : Int := if 64 < s.length then 2 else if pB 32 s = true then 0 else 3
def flt (k : Int) (p : List UInt8) : Int :=
 if k = 1 then (if 24 < p.length then 2 else 0)
 else if k = 2 then (if 1152921504606846976 < dval 0 p then 2 else 0)
 else if k = 3 then paE p
 else if k = 4 then txE (cont k p)
 else if k = 0 then 80
 else 0
structure Tk where
 k : Int
 t : ByteArray
 a : Int
abbrev Pb := Int × Int
def so (x : Tk) : List UInt8 := if x.k = 4 then 34 :: (x.t.data.toList ++ [34]) else x.t.data.toList
theorem run_le (p : UInt8 → Bool) : ∀ l : List UInt8, run p l ≤ l.length
 | [] => Nat.le_refl _
 | c :: r => by
  have := run_le p r
  unfold run
  rw [List.length_cons]
  split <;> omega
theorem run_stop {p : UInt8 → Bool} {d : UInt8} (h : p d = false) (r : List UInt8) : ∀ l : List UInt8, run p (l ++ d :: r) = run p l
 | [] => by simp [run, h]
 | c :: l => by
  rw [List.cons_append]
  unfold run
  rw [run_stop h r l]
theorem run_take (p : UInt8 → Bool) : ∀ (l : List UInt8) (n : Nat), run p (l.take n) = min n (run p l)
 | [], n => by simp [run]
 | c :: l, 0 => by simp [run]
 | c :: l, n + 1 => by
  rw [List.take_succ_cons]
  unfold run
  rw [run_take p l n]
  split <;> omega
theorem run_whole {p : UInt8 → Bool} : ∀ {l : List UInt8}, (∀ c ∈ l, p c = true) → run p l = l.length
 | [], _ => rfl
 | c :: l, h => by
  unfold run
  rw [if_pos (h c (List.mem_cons_self ..)), run_whole fun d hd => h d (List.mem_cons_of_mem _ hd), List.length_cons]
theorem sk_blank {c : UInt8} (h : isB c = true) (r : List UInt8) : sk false (c :: r) = sk false r + 1 := by
 have h35 : decide (c.toNat = 35) = false := by
  unfold isB at h
  simp only [Bool.or_eq_true, decide_eq_true_eq] at h
  exact decide_eq_false (by omega)
 show (if ((false && isC c) || isB c || decide (c.toNat = 35)) = true then sk (isC c && (false || decide (c.toNat = 35))) r + 1 else 0) = _
 rw [h, h35]
 simp
theorem sk_none {c : UInt8} (h1 : isB c = false) (h2 : c.toNat ≠ 35) (r : List UInt8) : sk false (c :: r) = 0 := by
 show (if ((false && isC c) || isB c || decide (c.toNat = 35)) = true then sk (isC c && (false || decide (c.toNat = 35))) r + 1 else 0) = _
 rw [h1, decide_eq_false h2]
 rfl
theorem sgn_cons (c : UInt8) (r : List UInt8) : sgn (c :: r) = if (c.toNat = 61 ∨ c.toNat = 33 ∨ c.toNat = 60) ∧ r.head? = some 61 then (5, 2) else if isS c = true then (5, 1) else (0, 1) := rfl
theorem sgn_pos {l : List UInt8} (h : l ≠ []) : 1 ≤ (sgn l).2 := by
 cases l with
 | nil => exact absurd rfl h
 | cons c r =>
  rw [sgn_cons]
  split
  ·exact Nat.le_succ 1
  ·split <;> exact Nat.le_refl 1
theorem pnt_cons (c : UInt8) (r : List UInt8) : pnt (c :: r) = if c.toNat = 46 then run isD r else 0 := rfl
theorem shp_cons (c : UInt8) (r : List UInt8) : shp (c :: r) = if isL c = true then (1, run isW (c :: r)) else if isD c = true then
   (if pnt ((c :: r).drop (run isD (c :: r))) = 0 then (2, run isD (c :: r)) else (3, run isD (c :: r) + 1 + pnt ((c :: r).drop (run isD (c :: r)))))
  else if c.toNat = 34 ∧ (r.drop (run isQ r)).head? = some 34 then (4, run isQ r + 2) else sgn (c :: r) := rfl
theorem isW_L {c : UInt8} (h : isL c = true) : isW c = true := by unfold isW; rw [h]; rfl
theorem run_cons {p : UInt8 → Bool} {c : UInt8} (h : p c = true) (r : List UInt8) : run p (c :: r) = run p r + 1 := by
 show (if p c = true then run p r + 1 else 0) = _
 rw [if_pos h]
theorem head_len {l : List UInt8} {n : Nat} {c : UInt8} (h : (l.drop n).head? = some c) : n < l.length := by
 rcases Nat.lt_or_ge n l.length with h1 | h1
 ·exact h1
 ·rw [List.drop_eq_nil_of_le h1] at h; cases h
theorem shp_pos {l : List UInt8} (h : l ≠ []) : 1 ≤ (shp l).2 := by
 cases l with
 | nil => exact absurd rfl h
 | cons c r =>
  rw [shp_cons]
  split
  ·rename_i hl
   show 1 ≤ run isW (c :: r)
   rw [run_cons (isW_L hl)]
   omega
  ·split
   ·rename_i hd
    have : 1 ≤ run isD (c :: r) := by rw [run_cons hd]; omega
    split
    ·exact this
    ·show 1 ≤ run isD (c :: r) + 1 + _
     omega
   ·split
    ·exact Nat.le_add_left 1 _
    ·exact sgn_pos (by simp)
theorem shp_kind (l : List UInt8) : (shp l).1 = 0 ∨ (shp l).1 = 1 ∨ (shp l).1 = 2 ∨ (shp l).1 = 3 ∨ (shp l).1 = 4 ∨ (shp l).1 = 5 := by
 cases l with
 | nil => exact .inl rfl
 | cons c r =>
  rw [shp_cons]
  split
  ·simp
  ·split
   ·split <;> simp
   ·split
    ·simp
    ·rw [sgn_cons]
     split
     ·simp
     ·split <;> simp
def lxs (p : Nat) (f : Bool) (l : List UInt8) : List Tk × List Pb :=
 if _h : l.drop (sk false l) = [] then ([], [])
 else
  let l' := l.drop (sk false l)
  let R := lxs (p + sk false l + (shp l').2) (decide ((shp l').1 = 0)) (l'.drop (shp l').2)
  if flt (shp l').1 (l'.take (shp l').2) = 0 then (⟨(shp l').1, ⟨(cont (shp l').1 (l'.take (shp l').2)).toArray⟩, ((p + sk false l : Nat) : Int)⟩ :: R.1, R.2)
  else if (shp l').1 = 0 ∧ f = true ∧ sk false l = 0 then R
  else (R.1, (((p + sk false l : Nat) : Int), flt (shp l').1 (l'.take (shp l').2)) :: R.2)
termination_by l.length
decreasing_by
 have h1 := shp_pos _h
 have h2 : (l.drop (sk false l)).length ≠ 0 := fun e => _h (List.eq_nil_of_length_eq_zero e)
 rw [List.length_drop, List.length_drop]
 rw [List.length_drop] at h2
 omega
theorem lex_done {l : List UInt8} (h : l.drop (sk false l) = []) (p : Nat) (f : Bool) : lxs p f l = ([], []) := by
 rw [lxs, dif_pos h]
theorem lex_step {l l' : List UInt8} (h : l.drop (sk false l) = l') (h0 : l' ≠ []) (p : Nat) (f : Bool) : lxs p f l =
  if flt (shp l').1 (l'.take (shp l').2) = 0 then (⟨(shp l').1, ⟨(cont (shp l').1 (l'.take (shp l').2)).toArray⟩, ((p + sk false l : Nat) : Int)⟩ :: (lxs (p + sk false l + (shp l').2) (decide ((shp l').1 = 0)) (l'.drop (shp l').2)).1, (lxs (p + sk false l + (shp l').2) (decide ((shp l').1 = 0)) (l'.drop (shp l').2)).2)
  else if (shp l').1 = 0 ∧ f = true ∧ sk false l = 0 then lxs (p + sk false l + (shp l').2) (decide ((shp l').1 = 0)) (l'.drop (shp l').2)
  else ((lxs (p + sk false l + (shp l').2) (decide ((shp l').1 = 0)) (l'.drop (shp l').2)).1, (((p + sk false l : Nat) : Int), flt (shp l').1 (l'.take (shp l').2)) :: (lxs (p + sk false l + (shp l').2) (decide ((shp l').1 = 0)) (l'.drop (shp l').2)).2) := by
 subst h
 rw [lxs, dif_neg h0]
end Go.Proofs.YtbahfelnbofjjaaGreatDoor

/-
  The reference's Digits and Format of decimals: for every number in range; Has; the reference's Check and Has: for every value; The reference's Format: for every value; The reference's texts of units, types, windows, literals; ranks; The reference's ranks and literals.
-/
import Derived.Test.YtbahfelnbofjjaaGreatDoorT01
import Derived.Test.YtbahfelnbofjjaaGreatDoorT02
import Derived.Test.YtbahfelnbofjjaaGreatDoorT03
import Derived.Test.YtbahfelnbofjjaaGreatDoorT06
import Derived.Test.YtbahfelnbofjjaaGreatDoorT09
import Derived.Test.YtbahfelnbofjjaaGreatDoorT15
set_option maxRecDepth 100000
set_option maxHeartbeats 16000000
namespace Go.Proofs.YtbahfelnbofjjaaGreatDoor
open Go.RowKit dec
def sfd (u : Nat) : Nat → List UInt8
 | 0 => []
 | i + 1 => Lib.dg u i :: sfd u i
theorem sfd_eq (u : Nat) : ∀ i, sfd u i = (List.range i).map fun t => Lib.dg u (i - 1 - t)
 | 0 => rfl
 | i + 1 => by
  rw [sfd, sfd_eq u i, List.range_succ_eq_map, List.map_cons, List.map_map]
  congr 1
  refine List.map_congr_left fun t ht => ?_
  have := List.mem_range.1 ht
  simp only [Function.comp]
  congr 1
  omega
theorem sfd_len (u i : Nat) : (sfd u i).length = i := by rw [sfd_eq]; simp
theorem sfd_all {u i : Nat} (h1 : 1 ≤ i) (h2 : u / 10 ^ i = 0) (h3 : i = 1 ∨ u / 10 ^ (i - 1) ≠ 0) : sfd u i = Lib.decDigits u := by
 have hp : 0 < 10 ^ i := Nat.pow_pos (by decide)
 have hlt : u < 10 ^ i := by
  rcases Nat.div_eq_zero_iff.1 h2 with h | h
  ·omega
  ·exact h
 have hn : Lib.nDigits u = i := by
  rcases h3 with rfl | h3
  ·exact Lib.nDigits_small (by simpa using hlt)
  ·obtain ⟨j, rfl⟩ : ∃ j, i = j + 1 := ⟨i - 1, by omega⟩
   rw [Nat.add_sub_cancel] at h3
   have hq : 0 < 10 ^ j := Nat.pow_pos (by decide)
   exact Lib.nDigits_unique j u (by
    rcases Nat.lt_or_ge u (10 ^ j) with h | h
    ·exact absurd (Nat.div_eq_of_lt h) h3
    ·exact h) hlt
 rw [sfd_eq, Lib.decDigits_eq, hn]
def sfp (u : Nat) : Nat → List UInt8
 | 0 => []
 | i + 1 => if i = 6 then Lib.dg u i :: 46 :: sfp u i else Lib.dg u i :: sfp u i
theorem sfp_low (u : Nat) : ∀ i, i ≤ 6 → sfp u i = sfd u i
 | 0, _ => rfl
 | i + 1, h => by rw [sfp, sfd, if_neg (by omega), sfp_low u i (by omega)]
theorem sfp_high (u : Nat) : ∀ m, sfp u (6 + (m + 1)) = sfd (u / 1000000) (m + 1) ++ 46 :: frac u
 | 0 => by
  rw [show 6 + (0 + 1) = 6 + 1 from rfl, sfp, if_pos rfl, sfp_low u 6 (by omega)]
  show Lib.dg u 6 :: 46 :: frac u = Lib.dg (u / 1000000) 0 :: 46 :: frac u
  congr 1
  unfold Lib.dg
  simp
 | m + 1 => by
  rw [show 6 + (m + 1 + 1) = (6 + (m + 1)) + 1 by omega, sfp, if_neg (by omega), sfp_high u m, sfd, List.cons_append]
  congr 1
  unfold Lib.dg
  rw [Nat.div_div_eq_div_mul, show (1000000 : Nat) = 10 ^ 6 from rfl, ← Nat.pow_add]
theorem sfp_len (u : Nat) : ∀ i, (sfp u i).length ≤ i + 1
 | i => by
  rcases Nat.lt_or_ge i 7 with h | h
  ·rw [sfp_low u i (by omega), sfd_len]; omega
  ·obtain ⟨m, rfl⟩ : ∃ m, i = 6 + (m + 1) := ⟨i - 7, by omega⟩
   rw [sfp_high, List.length_append, List.length_cons, sfd_len, frac_len]; omega
theorem sfp_all {u i : Nat} (h1 : 7 ≤ i) (h2 : u / 10 ^ i = 0) (h3 : i = 7 ∨ u / 10 ^ (i - 1) ≠ 0) : sfp u i = bod u := by
 obtain ⟨m, rfl⟩ : ∃ m, i = 6 + (m + 1) := ⟨i - 7, by omega⟩
 have hd : ∀ j, u / 10 ^ (6 + j) = u / 1000000 / 10 ^ j := fun j => by rw [Nat.pow_add, ← Nat.div_div_eq_div_mul]
 rw [hd] at h2
 rw [sfp_high, sfd_all (by omega) h2 (by
  rcases h3 with h3 | h3
  ·exact .inl (by omega)
  ·refine .inr ?_
   rw [show 6 + (m + 1) - 1 = 6 + (m + 1 - 1) by omega, hd] at h3
   exact h3)]
 rfl
theorem one_str (x : Nat) (_hx : x < 10) (w : World) : (convert 56 9 (.slice (some ⟨w.heap.size, 0, none⟩) 1 1)).run Tryz.prog (w.alloc (.cells #[.int .u8 (48 + (x : Int))] 5)) = .ok (.string ⟨[UInt8.ofNat (48 + x)].toArray⟩) (w.alloc (.cells #[.int .u8 (48 + (x : Int))] 5)) := by
 rw [run_convert_bytes_arg _ 56 5 Tryz.underlying56 Tryz.underlying5 w.heap.size 0 1 1 [48 + (x : Int)] rfl ?_ _ Tryz.underlying9]
 ·congr 2
 ·intro i hi
  obtain rfl : i = 0 := by simpa using hi
  simp
theorem pow_big {i : Nat} (h : 19 ≤ i) : 10000000000000000000 ≤ 10 ^ i := Nat.le_trans (by decide) (Nat.pow_le_pow_right (by decide) h)
theorem loop_low {u i m : Nat} (hu : u ≤ 1152921504606846976) (h : i ≤ m ∨ u / 10 ^ (i - 1) ≠ 0) (hm : m ≤ 19) : i ≤ 20 := by
 rcases h with h | h
 ·omega
 ·rcases Nat.lt_or_ge i 20 with h1 | h1
  ·omega
  ·have := pow_big (i := i - 1) (by omega)
   exact absurd (Nat.div_eq_of_lt (by omega)) h
theorem step_nat (v : Nat) : ((v : Int)).tmod 10 = ((v % 10 : Nat) : Int) ∧ ((v : Int)).tdiv 10 = ((v / 10 : Nat) : Int) := ⟨by rfl, by rfl⟩
theorem step_neg (v : Nat) : (-(v : Int)).tmod 10 = -((v % 10 : Nat) : Int) ∧ (-(v : Int)).tdiv 10 = -((v / 10 : Nat) : Int) := by
 rw [Int.neg_tmod, Int.neg_tdiv]
 exact ⟨by rfl, by rfl⟩
theorem digits05_pos (u : Nat) (hu : u ≤ 1152921504606846976) (w : World) : Calls Tryz.prog 59 #[.int .i64 ((u : Int))] w fun e w' => e = .returned (.string ⟨(Lib.decDigits u).toArray⟩) ∧ Below w.heap.size w w' := by
 go_enter Tryz.func59, Tryz.ntmps59
 go_wp2_with fail
 go_loopw [3, 4, 5] (fun x y z wr => ∃ i : Nat, x = .string ⟨(sfd u i).toArray⟩ ∧ y = .int .i64 (((u / 10 ^ i : Nat) : Int)) ∧ z = .int .i64 (i : Nat) ∧ (i ≤ 1 ∨ u / 10 ^ (i - 1) ≠ 0) ∧ Below w.heap.size w wr) (fun _ y z _ => 2 * (intOf y).natAbs + (1 - (intOf z).toNat))
 case atStart => exact ⟨0, rfl, by rw [Nat.pow_zero, Nat.div_one], rfl, .inl (by omega), Below.refl _ _⟩
 case round =>
  obtain ⟨i, rfl, rfl, rfl, hi, hb⟩ := hrel
  have hlow := loop_low hu hi (by decide)
  have hsl : (sfd u i).length ≤ 1000 := by rw [sfd_len]; omega
  have hv0 : u / 10 ^ i ≤ 1152921504606846976 := Nat.le_trans (Nat.div_le_self _ _) hu
  by_cases hc : i < 1 ∨ u / 10 ^ i ≠ 0
  ·have hnext : u / 10 ^ (i + 1) = u / 10 ^ i / 10 := by rw [Nat.pow_succ, Nat.div_div_eq_div_mul]
   have hprev : i + 1 ≤ 1 ∨ u / 10 ^ (i + 1 - 1) ≠ 0 := by rw [Nat.add_sub_cancel]; omega
   have hdg : Lib.dg u i = UInt8.ofNat (48 + u / 10 ^ i % 10) := rfl
   have hstep : sfd u (i + 1) = Lib.dg u i :: sfd u i := rfl
   rw [hdg] at hstep
   generalize sfd u i = L at *
   generalize hv : u / 10 ^ i = v at *
   obtain ⟨x, hx⟩ : ∃ x, v % 10 = x := ⟨_, rfl⟩
   have hx10 : x < 10 := by rw [← hx]; exact Nat.mod_lt _ (by decide)
   obtain ⟨g1, g2⟩ := step_nat v
   rw [hx] at g1 hstep
   have hw : IntKind.u8.wrap (48 + (x : Int)) = 48 + (x : Int) := by rw [IntKind.wrap_u8]; omega
   have hcv := one_str x hx10 wr
   obtain ⟨y, hy⟩ : ∃ y, UInt8.ofNat (48 + x) = y := ⟨_, rfl⟩
   rw [hy] at hcv hstep
   clear hy
   have HI := Lib.hid hi
   have HP := Lib.hid hprev
   have HN := Lib.hid hnext
   have HV := Lib.hid hv
   have HX := Lib.hid hx10
   have HC := Lib.hid hc
   have HG := Lib.hid hu
   have hlow2 : i ≤ 20 := hlow
   clear hi hprev hnext hv hx hdg hlow hc hu
   have A := add_strP [y] L (by simp) (by omega)
   rw [List.singleton_append] at A
   have HL : Hid (sfd u (i + 1) = y :: L) := hstep
   generalize y :: L = L2 at *
   clear hstep
   have hd : decide ((x : Int) < 0) = false := decide_eq_false (by omega)
   have hC := HC.out
   go_wp2_with fail
   all_goals first
    | (refine ⟨⟨i + 1, by rw [HL.out], by rw [HN.out]; exact congrArg (Value.int .i64) (by omega), by rfl, HP.out, balloc hb _⟩, ?_⟩; show 2 * (intOf (.int .i64 (((v / 10 : Nat) : Int)))).natAbs + (1 - (intOf (.int .i64 ((i : Int) + 1))).toNat) < 2 * (intOf (.int .i64 ((v : Int)))).natAbs + (1 - (intOf (.int .i64 ((i : Nat) : Int))).toNat); simp only [intOf]; omega)
    | (exfalso; omega)
    | (exfalso; rename_i hz _; simp at hz; omega)
    | (exfalso; rename_i hz; simp at hz; omega)
    | (exfalso; simp at *; omega)
  ·have hz : u / 10 ^ i = 0 := by omega
   have hm : 1 ≤ i := by omega
   have hL : Hid (sfd u i = Lib.decDigits u) := sfd_all hm hz (by omega)
   rw [hz]
   have hd : decide ((i : Int) < 1) = false := decide_eq_false (by omega)
   have hd2 : decide ((u : Int) < 0) = false := decide_eq_false (by omega)
   clear hz hm hc hi hv0 hlow
   go_wp2_with fail
   go_ret
   exact ⟨by rw [← hL.out]; rfl, hb⟩
theorem digits05_neg (u : Nat) (hu : u ≤ 1152921504606846976) (h0 : 0 < u) (w : World) : Calls Tryz.prog 59 #[.int .i64 (-(u : Int))] w fun e w' => e = .returned (.string ⟨(45 :: Lib.decDigits u).toArray⟩) ∧ Below w.heap.size w w' := by
 go_enter Tryz.func59, Tryz.ntmps59
 go_wp2_with fail
 go_loopw [3, 4, 5] (fun x y z wr => ∃ i : Nat, x = .string ⟨(sfd u i).toArray⟩ ∧ y = .int .i64 (-((u / 10 ^ i : Nat) : Int)) ∧ z = .int .i64 (i : Nat) ∧ (i ≤ 1 ∨ u / 10 ^ (i - 1) ≠ 0) ∧ Below w.heap.size w wr) (fun _ y z _ => 2 * (intOf y).natAbs + (1 - (intOf z).toNat))
 case atStart => exact ⟨0, rfl, by rw [Nat.pow_zero, Nat.div_one], rfl, .inl (by omega), Below.refl _ _⟩
 case round =>
  obtain ⟨i, rfl, rfl, rfl, hi, hb⟩ := hrel
  have hlow := loop_low hu hi (by decide)
  have hsl : (sfd u i).length ≤ 1000 := by rw [sfd_len]; omega
  have hv0 : u / 10 ^ i ≤ 1152921504606846976 := Nat.le_trans (Nat.div_le_self _ _) hu
  by_cases hc : i < 1 ∨ u / 10 ^ i ≠ 0
  ·have hnext : u / 10 ^ (i + 1) = u / 10 ^ i / 10 := by rw [Nat.pow_succ, Nat.div_div_eq_div_mul]
   have hprev : i + 1 ≤ 1 ∨ u / 10 ^ (i + 1 - 1) ≠ 0 := by rw [Nat.add_sub_cancel]; omega
   have hdg : Lib.dg u i = UInt8.ofNat (48 + u / 10 ^ i % 10) := rfl
   have hstep : sfd u (i + 1) = Lib.dg u i :: sfd u i := rfl
   rw [hdg] at hstep
   generalize sfd u i = L at *
   generalize hv : u / 10 ^ i = v at *
   obtain ⟨x, hx⟩ : ∃ x, v % 10 = x := ⟨_, rfl⟩
   have hx10 : x < 10 := by rw [← hx]; exact Nat.mod_lt _ (by decide)
   obtain ⟨g1, g2⟩ := step_neg v
   rw [hx] at g1 hstep
   have hw : IntKind.u8.wrap (48 + (x : Int)) = 48 + (x : Int) := by rw [IntKind.wrap_u8]; omega
   have hcv := one_str x hx10 wr
   obtain ⟨y, hy⟩ : ∃ y, UInt8.ofNat (48 + x) = y := ⟨_, rfl⟩
   rw [hy] at hcv hstep
   clear hy
   have HI := Lib.hid hi
   have HP := Lib.hid hprev
   have HN := Lib.hid hnext
   have HV := Lib.hid hv
   have HX := Lib.hid hx10
   have HC := Lib.hid hc
   have HG := Lib.hid hu
   have hlow2 : i ≤ 20 := hlow
   clear hi hprev hnext hv hx hdg hlow hc hu h0
   obtain ⟨r, hr⟩ : ∃ r : Int, r = -(x : Int) := ⟨_, rfl⟩
   rw [← hr] at g1
   have A := add_strP [y] L (by simp) (by omega)
   rw [List.singleton_append] at A
   have HL : Hid (sfd u (i + 1) = y :: L) := hstep
   generalize y :: L = L2 at *
   clear hstep
   by_cases hx0 : r < 0
   ·have hd : decide (r < 0) = true := decide_eq_true hx0
    have hng : -r = (x : Int) := by omega
    have hrb : -9 ≤ r := by omega
    clear hr hx0
    have hC := HC.out
    go_wp2_with fail
    all_goals first
     | (refine ⟨⟨i + 1, by rw [HL.out], by rw [HN.out]; exact congrArg (Value.int .i64) (by omega), by rfl, HP.out, balloc hb _⟩, ?_⟩; show 2 * (intOf (.int .i64 (-((v / 10 : Nat) : Int)))).natAbs + (1 - (intOf (.int .i64 ((i : Int) + 1))).toNat) < 2 * (intOf (.int .i64 ((-(v : Int))))).natAbs + (1 - (intOf (.int .i64 ((i : Nat) : Int))).toNat); simp only [intOf]; omega)
     | (exfalso; omega)
     | (exfalso; rename_i hz _; simp at hz; omega)
     | (exfalso; rename_i hz; simp at hz; omega)
     | (exfalso; simp at *; omega)
   ·obtain rfl : r = (x : Int) := by omega
    have hd : decide ((x : Int) < 0) = false := decide_eq_false (by omega)
    clear hr hx0
    have hC := HC.out
    go_wp2_with fail
    all_goals first
     | (refine ⟨⟨i + 1, by rw [HL.out], by rw [HN.out]; exact congrArg (Value.int .i64) (by omega), by rfl, HP.out, balloc hb _⟩, ?_⟩; show 2 * (intOf (.int .i64 (-((v / 10 : Nat) : Int)))).natAbs + (1 - (intOf (.int .i64 ((i : Int) + 1))).toNat) < 2 * (intOf (.int .i64 ((-(v : Int))))).natAbs + (1 - (intOf (.int .i64 ((i : Nat) : Int))).toNat); simp only [intOf]; omega)
     | (exfalso; omega)
     | (exfalso; rename_i hz _; simp at hz; omega)
     | (exfalso; rename_i hz; simp at hz; omega)
     | (exfalso; simp at *; omega)
  ·have hz : u / 10 ^ i = 0 := by omega
   have hm : 1 ≤ i := by omega
   have hL : Hid (sfd u i = Lib.decDigits u) := sfd_all hm hz (by omega)
   rw [hz]
   have hd : decide ((i : Int) < 1) = false := decide_eq_false (by omega)
   have A := add_strP [45] (sfd u i) (by decide) (by omega)
   rw [List.singleton_append] at A
   have hd2 : decide (-(u : Int) < 0) = true := decide_eq_true (by omega)
   obtain ⟨L2, hL2⟩ : ∃ L2, (45 :: sfd u i : List UInt8) = L2 := ⟨_, rfl⟩
   rw [hL2] at A
   have HL : Hid (45 :: Lib.decDigits u = L2) := by unfold Hid; rw [← hL.out]; exact hL2
   clear hz hm hc hi hv0 hlow hL2
   go_wp2_with fail
   go_ret
   exact ⟨by rw [HL.out]; rfl, hb⟩
theorem format02_pos (u : Nat) (hu : u ≤ 1152921504606846976) (w : World) : Calls Tryz.prog 228 #[.int .i64 ((u : Int))] w fun e w' => e = .returned (.string ⟨(bod u).toArray⟩) ∧ Below w.heap.size w w' := by
 go_enter Tryz.func228, Tryz.ntmps228
 go_wp2_with fail
 go_loopw [3, 4, 5] (fun x y z wr => ∃ i : Nat, x = .string ⟨(sfp u i).toArray⟩ ∧ y = .int .i64 (((u / 10 ^ i : Nat) : Int)) ∧ z = .int .i64 (i : Nat) ∧ (i ≤ 7 ∨ u / 10 ^ (i - 1) ≠ 0) ∧ Below w.heap.size w wr) (fun _ y z _ => 2 * (intOf y).natAbs + (7 - (intOf z).toNat))
 case atStart => exact ⟨0, rfl, by rw [Nat.pow_zero, Nat.div_one], rfl, .inl (by omega), Below.refl _ _⟩
 case round =>
  obtain ⟨i, rfl, rfl, rfl, hi, hb⟩ := hrel
  have hlow := loop_low hu hi (by decide)
  have hsl : (sfp u i).length ≤ 1000 := by have := sfp_len u i; omega
  have hv0 : u / 10 ^ i ≤ 1152921504606846976 := Nat.le_trans (Nat.div_le_self _ _) hu
  by_cases hc : i < 7 ∨ u / 10 ^ i ≠ 0
  ·have hnext : u / 10 ^ (i + 1) = u / 10 ^ i / 10 := by rw [Nat.pow_succ, Nat.div_div_eq_div_mul]
   have hprev : i + 1 ≤ 7 ∨ u / 10 ^ (i + 1 - 1) ≠ 0 := by rw [Nat.add_sub_cancel]; omega
   have hdg : Lib.dg u i = UInt8.ofNat (48 + u / 10 ^ i % 10) := rfl
   have hstep : sfp u (i + 1) = if i = 6 then Lib.dg u i :: 46 :: sfp u i else Lib.dg u i :: sfp u i := rfl
   rw [hdg] at hstep
   generalize sfp u i = L at *
   generalize hv : u / 10 ^ i = v at *
   obtain ⟨x, hx⟩ : ∃ x, v % 10 = x := ⟨_, rfl⟩
   have hx10 : x < 10 := by rw [← hx]; exact Nat.mod_lt _ (by decide)
   obtain ⟨g1, g2⟩ := step_nat v
   rw [hx] at g1 hstep
   have hw : IntKind.u8.wrap (48 + (x : Int)) = 48 + (x : Int) := by rw [IntKind.wrap_u8]; omega
   have hcv := one_str x hx10 wr
   obtain ⟨y, hy⟩ : ∃ y, UInt8.ofNat (48 + x) = y := ⟨_, rfl⟩
   rw [hy] at hcv hstep
   clear hy
   have HI := Lib.hid hi
   have HP := Lib.hid hprev
   have HN := Lib.hid hnext
   have HV := Lib.hid hv
   have HX := Lib.hid hx10
   have HC := Lib.hid hc
   have HG := Lib.hid hu
   have hlow2 : i ≤ 20 := hlow
   clear hi hprev hnext hv hx hdg hlow hc hu
   by_cases h6 : i = 6
   ·subst h6
    rw [if_pos rfl] at hstep
    have A0 := add_strP [46] L (by decide) (by omega)
    have A := add_strP [y] (46 :: L) (by simp) (by rw [List.length_cons]; omega)
    rw [List.singleton_append] at A0 A
    have HL : Hid (sfp u (6 + 1) = y :: 46 :: L) := hstep
    generalize y :: 46 :: L = L2 at *
    generalize (46 :: L : List UInt8) = L3 at *
    clear hstep
    have hd : decide ((x : Int) < 0) = false := decide_eq_false (by omega)
    have hC := HC.out
    go_wp2_with fail
    all_goals first
     | (refine ⟨⟨7, by rw [HL.out], by rw [HN.out]; exact congrArg (Value.int .i64) (by omega), by rfl, HP.out, balloc hb _⟩, ?_⟩; show 2 * (intOf (.int .i64 (((v / 10 : Nat) : Int)))).natAbs + (7 - (intOf (.int .i64 (7 : Int))).toNat) < 2 * (intOf (.int .i64 ((v : Int)))).natAbs + (7 - (intOf (.int .i64 ((6 : Nat) : Int))).toNat); simp only [intOf]; omega)
     | (exfalso; omega)
     | (exfalso; rename_i hz _; simp at hz; omega)
     | (exfalso; rename_i hz; simp at hz; omega)
     | (exfalso; simp at *; omega)
   ·rw [if_neg h6] at hstep
    have A := add_strP [y] L (by simp) (by omega)
    rw [List.singleton_append] at A
    have HL : Hid (sfp u (i + 1) = y :: L) := hstep
    generalize y :: L = L2 at *
    have h6' : ((i : Int) == 6) = false := by rw [beq_eq_false_iff_ne]; omega
    clear hstep
    have hd : decide ((x : Int) < 0) = false := decide_eq_false (by omega)
    have hC := HC.out
    go_wp2_with fail
    all_goals first
     | (refine ⟨⟨i + 1, by rw [HL.out], by rw [HN.out]; exact congrArg (Value.int .i64) (by omega), by rfl, HP.out, balloc hb _⟩, ?_⟩; show 2 * (intOf (.int .i64 (((v / 10 : Nat) : Int)))).natAbs + (7 - (intOf (.int .i64 ((i : Int) + 1))).toNat) < 2 * (intOf (.int .i64 ((v : Int)))).natAbs + (7 - (intOf (.int .i64 ((i : Nat) : Int))).toNat); simp only [intOf]; omega)
     | (exfalso; omega)
     | (exfalso; rename_i hz _; simp at hz; omega)
     | (exfalso; rename_i hz; simp at hz; omega)
     | (exfalso; simp at *; omega)
  ·have hz : u / 10 ^ i = 0 := by omega
   have hm : 7 ≤ i := by omega
   have hL : Hid (sfp u i = bod u) := sfp_all hm hz (by omega)
   rw [hz]
   have hd : decide ((i : Int) < 7) = false := decide_eq_false (by omega)
   have hd2 : decide ((u : Int) < 0) = false := decide_eq_false (by omega)
   clear hz hm hc hi hv0 hlow
   go_wp2_with fail
   go_ret
   exact ⟨by rw [← hL.out]; rfl, hb⟩
theorem format02_neg (u : Nat) (hu : u ≤ 1152921504606846976) (h0 : 0 < u) (w : World) : Calls Tryz.prog 228 #[.int .i64 (-(u : Int))] w fun e w' => e = .returned (.string ⟨(45 :: bod u).toArray⟩) ∧ Below w.heap.size w w' := by
 go_enter Tryz.func228, Tryz.ntmps228
 go_wp2_with fail
 go_loopw [3, 4, 5] (fun x y z wr => ∃ i : Nat, x = .string ⟨(sfp u i).toArray⟩ ∧ y = .int .i64 (-((u / 10 ^ i : Nat) : Int)) ∧ z = .int .i64 (i : Nat) ∧ (i ≤ 7 ∨ u / 10 ^ (i - 1) ≠ 0) ∧ Below w.heap.size w wr) (fun _ y z _ => 2 * (intOf y).natAbs + (7 - (intOf z).toNat))
 case atStart => exact ⟨0, rfl, by rw [Nat.pow_zero, Nat.div_one], rfl, .inl (by omega), Below.refl _ _⟩
 case round =>
  obtain ⟨i, rfl, rfl, rfl, hi, hb⟩ := hrel
  have hlow := loop_low hu hi (by decide)
  have hsl : (sfp u i).length ≤ 1000 := by have := sfp_len u i; omega
  have hv0 : u / 10 ^ i ≤ 1152921504606846976 := Nat.le_trans (Nat.div_le_self _ _) hu
  by_cases hc : i < 7 ∨ u / 10 ^ i ≠ 0
  ·have hnext : u / 10 ^ (i + 1) = u / 10 ^ i / 10 := by rw [Nat.pow_succ, Nat.div_div_eq_div_mul]
   have hprev : i + 1 ≤ 7 ∨ u / 10 ^ (i + 1 - 1) ≠ 0 := by rw [Nat.add_sub_cancel]; omega
   have hdg : Lib.dg u i = UInt8.ofNat (48 + u / 10 ^ i % 10) := rfl
   have hstep : sfp u (i + 1) = if i = 6 then Lib.dg u i :: 46 :: sfp u i else Lib.dg u i :: sfp u i := rfl
   rw [hdg] at hstep
   generalize sfp u i = L at *
   generalize hv : u / 10 ^ i = v at *
   obtain ⟨x, hx⟩ : ∃ x, v % 10 = x := ⟨_, rfl⟩
   have hx10 : x < 10 := by rw [← hx]; exact Nat.mod_lt _ (by decide)
   obtain ⟨g1, g2⟩ := step_neg v
   rw [hx] at g1 hstep
   have hw : IntKind.u8.wrap (48 + (x : Int)) = 48 + (x : Int) := by rw [IntKind.wrap_u8]; omega
   have hcv := one_str x hx10 wr
   obtain ⟨y, hy⟩ : ∃ y, UInt8.ofNat (48 + x) = y := ⟨_, rfl⟩
   rw [hy] at hcv hstep
   clear hy
   have HI := Lib.hid hi
   have HP := Lib.hid hprev
   have HN := Lib.hid hnext
   have HV := Lib.hid hv
   have HX := Lib.hid hx10
   have HC := Lib.hid hc
   have HG := Lib.hid hu
   have hlow2 : i ≤ 20 := hlow
   clear hi hprev hnext hv hx hdg hlow hc hu h0
   obtain ⟨r, hr⟩ : ∃ r : Int, r = -(x : Int) := ⟨_, rfl⟩
   rw [← hr] at g1
   by_cases h6 : i = 6
   ·subst h6
    rw [if_pos rfl] at hstep
    have A0 := add_strP [46] L (by decide) (by omega)
    have A := add_strP [y] (46 :: L) (by simp) (by rw [List.length_cons]; omega)
    rw [List.singleton_append] at A0 A
    have HL : Hid (sfp u (6 + 1) = y :: 46 :: L) := hstep
    generalize y :: 46 :: L = L2 at *
    generalize (46 :: L : List UInt8) = L3 at *
    clear hstep
    by_cases hx0 : r < 0
    ·have hd : decide (r < 0) = true := decide_eq_true hx0
     have hng : -r = (x : Int) := by omega
     have hrb : -9 ≤ r := by omega
     clear hr hx0
     have hC := HC.out
     go_wp2_with fail
     all_goals first
      | (refine ⟨⟨7, by rw [HL.out], by rw [HN.out]; exact congrArg (Value.int .i64) (by omega), by rfl, HP.out, balloc hb _⟩, ?_⟩; show 2 * (intOf (.int .i64 (-((v / 10 : Nat) : Int)))).natAbs + (7 - (intOf (.int .i64 (7 : Int))).toNat) < 2 * (intOf (.int .i64 ((-(v : Int))))).natAbs + (7 - (intOf (.int .i64 ((6 : Nat) : Int))).toNat); simp only [intOf]; omega)
      | (exfalso; omega)
      | (exfalso; rename_i hz _; simp at hz; omega)
      | (exfalso; rename_i hz; simp at hz; omega)
      | (exfalso; simp at *; omega)
    ·obtain rfl : r = (x : Int) := by omega
     have hd : decide ((x : Int) < 0) = false := decide_eq_false (by omega)
     clear hr hx0
     have hC := HC.out
     go_wp2_with fail
     all_goals first
      | (refine ⟨⟨7, by rw [HL.out], by rw [HN.out]; exact congrArg (Value.int .i64) (by omega), by rfl, HP.out, balloc hb _⟩, ?_⟩; show 2 * (intOf (.int .i64 (-((v / 10 : Nat) : Int)))).natAbs + (7 - (intOf (.int .i64 (7 : Int))).toNat) < 2 * (intOf (.int .i64 ((-(v : Int))))).natAbs + (7 - (intOf (.int .i64 ((6 : Nat) : Int))).toNat); simp only [intOf]; omega)
      | (exfalso; omega)
      | (exfalso; rename_i hz _; simp at hz; omega)
      | (exfalso; rename_i hz; simp at hz; omega)
      | (exfalso; simp at *; omega)
   ·rw [if_neg h6] at hstep
    have A := add_strP [y] L (by simp) (by omega)
    rw [List.singleton_append] at A
    have HL : Hid (sfp u (i + 1) = y :: L) := hstep
    generalize y :: L = L2 at *
    have h6' : ((i : Int) == 6) = false := by rw [beq_eq_false_iff_ne]; omega
    clear hstep
    by_cases hx0 : r < 0
    ·have hd : decide (r < 0) = true := decide_eq_true hx0
     have hng : -r = (x : Int) := by omega
     have hrb : -9 ≤ r := by omega
     clear hr hx0
     have hC := HC.out
     go_wp2_with fail
     all_goals first
      | (refine ⟨⟨i + 1, by rw [HL.out], by rw [HN.out]; exact congrArg (Value.int .i64) (by omega), by rfl, HP.out, balloc hb _⟩, ?_⟩; show 2 * (intOf (.int .i64 (-((v / 10 : Nat) : Int)))).natAbs + (7 - (intOf (.int .i64 ((i : Int) + 1))).toNat) < 2 * (intOf (.int .i64 ((-(v : Int))))).natAbs + (7 - (intOf (.int .i64 ((i : Nat) : Int))).toNat); simp only [intOf]; omega)
      | (exfalso; omega)
      | (exfalso; rename_i hz _; simp at hz; omega)
      | (exfalso; rename_i hz; simp at hz; omega)
      | (exfalso; simp at *; omega)
    ·obtain rfl : r = (x : Int) := by omega
     have hd : decide ((x : Int) < 0) = false := decide_eq_false (by omega)
     clear hr hx0
     have hC := HC.out
     go_wp2_with fail
     all_goals first
      | (refine ⟨⟨i + 1, by rw [HL.out], by rw [HN.out]; exact congrArg (Value.int .i64) (by omega), by rfl, HP.out, balloc hb _⟩, ?_⟩; show 2 * (intOf (.int .i64 (-((v / 10 : Nat) : Int)))).natAbs + (7 - (intOf (.int .i64 ((i : Int) + 1))).toNat) < 2 * (intOf (.int .i64 ((-(v : Int))))).natAbs + (7 - (intOf (.int .i64 ((i : Nat) : Int))).toNat); simp only [intOf]; omega)
      | (exfalso; omega)
      | (exfalso; rename_i hz _; simp at hz; omega)
      | (exfalso; rename_i hz; simp at hz; omega)
      | (exfalso; simp at *; omega)
  ·have hz : u / 10 ^ i = 0 := by omega
   have hm : 7 ≤ i := by omega
   have hL : Hid (sfp u i = bod u) := sfp_all hm hz (by omega)
   rw [hz]
   have hd : decide ((i : Int) < 7) = false := decide_eq_false (by omega)
   have A := add_strP [45] (sfp u i) (by decide) (by omega)
   rw [List.singleton_append] at A
   have hd2 : decide (-(u : Int) < 0) = true := decide_eq_true (by omega)
   obtain ⟨L2, hL2⟩ : ∃ L2, (45 :: sfp u i : List UInt8) = L2 := ⟨_, rfl⟩
   rw [hL2] at A
   have HL : Hid (45 :: bod u = L2) := by unfold Hid; rw [← hL.out]; exact hL2
   clear hz hm hc hi hv0 hlow hL2
   go_wp2_with fail
   go_ret
   exact ⟨by rw [HL.out]; rfl, hb⟩
end Go.Proofs.YtbahfelnbofjjaaGreatDoor
namespace Go.Proofs.YtbahfelnbofjjaaGreatDoor
open Go.RowKit dec
theorem fields_any (k n : Int) (s : ByteArray) (w : World) : Calls Tryz.prog 274 #[.agg #[.int .i64 k, .int .i64 n, .string s]] w fun e w' => e = .returned (.bool (fmd ⟨k, n, s⟩)) ∧ Below w.heap.size w w' := by
 go_enter Tryz.func274, Tryz.ntmps274
 go_wp2
 all_goals go_ret
 all_goals refine ⟨congrArg (fun b => Ending.returned (Value.bool b)) ?_, balloc (b0 w) _⟩
 all_goals simp_all [fmd, emp]
 all_goals rfl
theorem printable_any (lo : Nat) (s : ByteArray) (hs : s.size ≤ 9223372036854775806) (w : World) : Calls Tryz.prog 303 #[.string s, .int .u8 (lo : Nat)] w fun e w' => e = .returned (.bool (pB lo s.data.toList)) ∧ w = w' := by
 go_enter Tryz.func303, Tryz.ntmps303
 go_wp2
 go_loopw [5] (fun x wr => ∃ i : Nat, x = .int .i64 (i : Nat) ∧ i ≤ s.size ∧ Hid (pB lo s.data.toList = pB lo (s.data.toList.drop i)) ∧ wr = w) (fun x _ => s.size - (intOf x).toNat)
 case atStart => exact ⟨0, rfl, by omega, rfl, rfl⟩
 case round =>
  obtain ⟨i, rfl, hi, hp, rfl⟩ := hrel
  go_wp2
  case roundEnd =>
   have h1 : i < s.size := by omega
   rename_i h2
   simp only [beq_eq_false_iff_ne] at h2
   refine ⟨⟨i + 1, rfl, by omega, ?_, trivial⟩, ?_⟩
   ·exact Lib.hid (hp.out.trans ((pB_step lo s h1).2 ((okB_yes lo s[i]).2 (by omega))))
   ·show s.size - ((i : Int) + 1).toNat < s.size - ((i : Nat) : Int).toNat
    omega
  all_goals go_ret
  all_goals refine ⟨congrArg (fun b => Ending.returned (Value.bool b)) (Eq.symm ?_), rfl⟩
  all_goals rw [hp.out]
  all_goals first
   | exact pB_end lo s (by omega)
   | exact (pB_step lo s (by omega)).1 ((okB_no lo _).2 (by omega))
   | (rename_i h2; simp only [beq_iff_eq] at h2; exact (pB_step lo s (by omega)).1 ((okB_no lo _).2 (by omega)))
theorem text_any (s : ByteArray) (hs : s.size ≤ 140737488355328) (w : World) : Calls Tryz.prog 276 #[.string s] w fun e w' => e = .returned (.bool (decide (s.size ≤ 64) && pB 32 s.data.toList)) ∧ w = w' := by
 have C1 := Lib.hid (fun w => printable_any 32 s (by omega) w)
 by_cases h : s.size ≤ 64
 ·rw [decide_eq_true h]
  go_enter Tryz.func276, Tryz.ntmps276
  go_wp2_with fail
  refine (C1.out _).mono ?_
  rintro e w' ⟨rfl, rfl⟩
  go_wp2
  go_ret
  exact ⟨rfl, rfl⟩
 ·rw [decide_eq_false h]
  clear C1
  go_enter Tryz.func276, Tryz.ntmps276
  go_wp2_with fail
  go_ret
  exact ⟨rfl, rfl⟩
theorem key_any (s : ByteArray) (hs : s.size ≤ 140737488355328) (w : World) : Calls Tryz.prog 277 #[.string s] w fun e w' => e = .returned (.bool (!decide (s.size = 0) && decide (s.size ≤ 32) && pB 33 s.data.toList)) ∧ w = w' := by
 have C1 := Lib.hid (fun w => printable_any 33 s (by omega) w)
 by_cases hz : s.size = 0
 ·have hz2 := size_zero hz
  subst hz2
  clear C1
  go_enter Tryz.func277, Tryz.ntmps277
  go_wp2_with fail
  go_ret
  exact ⟨rfl, rfl⟩
 have he : s.toList.isEmpty = false := by rw [emp]; exact decide_eq_false hz
 rw [decide_eq_false hz]
 clear hz
 by_cases h : s.size ≤ 32
 ·rw [decide_eq_true h]
  go_enter Tryz.func277, Tryz.ntmps277
  go_wp2_with fail
  refine (C1.out _).mono ?_
  rintro e w' ⟨rfl, rfl⟩
  go_wp2
  go_ret
  exact ⟨rfl, rfl⟩
 ·rw [decide_eq_false h]
  clear C1
  go_enter Tryz.func277, Tryz.ntmps277
  go_wp2_with fail
  go_ret
  exact ⟨rfl, rfl⟩
theorem ck_ref (k n : Int) (s : ByteArray) : ck ⟨k, n, s⟩ = if fmd ⟨k, n, s⟩ then (if rg n = false ∨ (k = 4 ∧ ¬ s.size ≤ 64) ∨ (k = 5 ∧ ¬ s.size ≤ 32) then 2
  else if (k = 4 ∧ (decide (s.size ≤ 64) && pB 32 s.data.toList) = false) ∨ (k = 5 ∧ (!decide (s.size = 0) && decide (s.size ≤ 32) && pB 33 s.data.toList) = false) then 3 else 0) else 1 := by
 have r0 : rg 0 = true := by decide
 have r1 : rg 1 = true := by decide
 cases hf : fmd ⟨k, n, s⟩
 ·unfold ck; rw [hf]; rfl
 unfold ck
 rw [hf]
 unfold fmd at hf
 simp only at hf
 unfold lmt spl
 simp only
 by_cases k0 : k = 0
 ·subst k0
  simp at hf
  rw [hf.1]
  simp [r0]
 by_cases k1 : k = 1
 ·subst k1
  simp at hf
  rcases hf.1 with e | e <;> (rw [e]; simp [r0, r1])
 by_cases k2 : k = 2 ∨ k = 3
 ·have k4 : ¬ k = 4 := by omega
  have k5 : ¬ k = 5 := by omega
  simp [k2, k4, k5]
  cases rg n <;> simp
 by_cases k4 : k = 4
 ·subst k4
  simp at hf
  rw [hf]
  by_cases h : s.size ≤ 64
  ·simp [h, r0]
   cases pB 32 s.data.toList <;> simp
  ·simp [h]
 by_cases k5 : k = 5
 ·subst k5
  simp at hf
  rw [hf]
  by_cases h : s.size ≤ 32
  ·simp [h, r0]
   by_cases hz : s = .empty
   ·simp [hz]
   ·simp [hz]
    cases pB 33 s.data.toList <;> simp
  ·simp [h]
 ·simp [k0, k1, k4, k5] at hf
  exact absurd hf.1 k2
theorem rcheck_any (k n : Int) (s : ByteArray) (hs : s.size ≤ 140737488355328) (w : World) : Calls Tryz.prog 238 #[.agg #[.int .i64 k, .int .i64 n, .string s]] w fun e w' => e = .returned (.int .i64 (ck ⟨k, n, s⟩)) ∧ Below w.heap.size w w' := by
 have C1 := Lib.hid (fields_any k n s)
 have C2 := Lib.hid (refInRange_any n)
 have C3 := Lib.hid (text_any s hs)
 have C4 := Lib.hid (key_any s hs)
 have V0 := Vx.new w k n s 23
 have E : Hid (ck ⟨k, n, s⟩ = _) := ck_ref k n s
 generalize fmd ⟨k, n, s⟩ = f at *
 generalize rg n = r at *
 go_enter Tryz.func238, Tryz.ntmps238
 go_wp2_with fail
 refine (C1.out _).mono ?_
 rintro e w1 ⟨rfl, b1⟩
 obtain ⟨c0, c1, c2⟩ := V0.keeps b1
 clear V0 C1
 replace b1 := (balloc (b0 w) _).trans (b1.mono (by simp))
 cases f
 ·go_wp2_with fail
  go_ret
  exact ⟨by rw [E.out]; rfl, b1⟩
 go_wp2_with fail
 refine (C2.out _).mono ?_
 rintro e w2 ⟨rfl, rfl⟩
 cases r
 ·go_wp2_with fail
  go_ret
  exact ⟨by rw [E.out]; simp, b1⟩
 clear C2
 by_cases k4 : k = 4
 ·subst k4
  clear C4
  by_cases h : s.size ≤ 64
  ·have C : Hid (∀ w, Calls Tryz.prog 276 #[.string s] w fun e w' => e = .returned (.bool (pB 32 s.data.toList)) ∧ w = w') := by
    have := C3.out
    rw [decide_eq_true h] at this
    exact this
   clear C3
   generalize pB 32 s.data.toList = p at *
   go_wp2_with fail
   refine (C.out _).mono ?_
   rintro e w3 ⟨rfl, rfl⟩
   cases p
   ·go_wp2_with fail
    go_ret
    exact ⟨by rw [E.out]; simp [h], b1⟩
   ·go_wp2_with fail
    go_ret
    exact ⟨by rw [E.out]; simp [h], b1⟩
  ·clear C3
   go_wp2_with fail
   go_ret
   exact ⟨by rw [E.out]; simp [h], b1⟩
 clear C3
 by_cases k5 : k = 5
 ·subst k5
  by_cases h : s.size ≤ 32
  ·have C : Hid (∀ w, Calls Tryz.prog 277 #[.string s] w fun e w' => e = .returned (.bool (!decide (s.size = 0) && decide (s.size ≤ 32) && pB 33 s.data.toList)) ∧ w = w') := C4.out
   clear C4
   generalize (!decide (s.size = 0) && decide (s.size ≤ 32) && pB 33 s.data.toList) = p at *
   go_wp2_with fail
   refine (C.out _).mono ?_
   rintro e w3 ⟨rfl, rfl⟩
   cases p
   ·go_wp2_with fail
    go_ret
    exact ⟨by rw [E.out]; simp [h], b1⟩
   ·go_wp2_with fail
    go_ret
    exact ⟨by rw [E.out]; simp [h], b1⟩
  ·clear C4
   go_wp2_with fail
   go_ret
   exact ⟨by rw [E.out]; simp [h], b1⟩
 clear C4
 go_wp2_with fail
 go_ret
 exact ⟨by rw [E.out]; simp [k4, k5], b1⟩
theorem valid_any (k n : Int) (s : ByteArray) (hs : s.size ≤ 140737488355328) (w : World) : Calls Tryz.prog 227 #[.agg #[.int .i64 k, .int .i64 n, .string s]] w fun e w' => e = .returned (.bool (ok ⟨k, n, s⟩)) ∧ Below w.heap.size w w' := by
 have C1 := Lib.hid (rcheck_any k n s hs)
 unfold ok
 generalize ck ⟨k, n, s⟩ = c at *
 have hc : (c == 0) = decide (c = 0) := rfl
 go_enter Tryz.func227, Tryz.ntmps227
 go_wp2_with fail
 refine (C1.out _).mono ?_
 rintro e w1 ⟨rfl, b1⟩
 replace b1 := (balloc (b0 w) _).trans (b1.mono (by simp))
 go_wp2_with fail
 go_ret
 exact ⟨rfl, b1⟩
end Go.Proofs.YtbahfelnbofjjaaGreatDoor
namespace Go.Proofs.YtbahfelnbofjjaaGreatDoor
open Go.RowKit dec
theorem rdig05_any (n : Int) (h1 : -1152921504606846976 ≤ n) (h2 : n ≤ 1152921504606846976) (w : World) : Calls Tryz.prog 59 #[.int .i64 n] w fun e w' => e = .returned (.string ⟨(Lib.itoa n).toArray⟩) ∧ Below w.heap.size w w' := by
 unfold Lib.itoa
 by_cases h : n < 0
 ·obtain ⟨u, rfl⟩ : ∃ u : Nat, n = -(u : Int) := ⟨n.natAbs, by omega⟩
  rw [if_pos h, show (-(u : Int)).natAbs = u by omega]
  exact digits05_neg u (by omega) (by omega) w
 ·obtain ⟨u, rfl⟩ : ∃ u : Nat, n = (u : Int) := ⟨n.toNat, by omega⟩
  rw [if_neg h, Int.toNat_natCast]
  exact digits05_pos u (by omega) w
theorem rfmt02_any (n : Int) (h1 : -1152921504606846976 ≤ n) (h2 : n ≤ 1152921504606846976) (w : World) : Calls Tryz.prog 228 #[.int .i64 n] w fun e w' => e = .returned (.string ⟨(foX n).toArray⟩) ∧ Below w.heap.size w w' := by
 rw [fo_eq]
 by_cases h : n < 0
 ·obtain ⟨u, rfl⟩ : ∃ u : Nat, n = -(u : Int) := ⟨n.natAbs, by omega⟩
  rw [if_pos h, show (-(u : Int)).natAbs = u by omega, List.singleton_append]
  exact format02_neg u (by omega) (by omega) w
 ·obtain ⟨u, rfl⟩ : ∃ u : Nat, n = (u : Int) := ⟨n.toNat, by omega⟩
  rw [if_neg h, show ((u : Int)).natAbs = u by omega, List.nil_append]
  exact format02_pos u (by omega) w
theorem rfmt_no (k n : Int) (s : ByteArray) (hs : s.size ≤ 1000) (w : World) (hk : ok ⟨k, n, s⟩ = false) : Calls Tryz.prog 160 #[.agg #[.int .i64 k, .int .i64 n, .string s]] w fun e w' => e = .returned (.string ⟨([] : List UInt8).toArray⟩) ∧ Below w.heap.size w w' := by
 have C1 := Lib.hid (valid_any k n s (by omega))
 rw [hk] at C1
 go_enter Tryz.func160, Tryz.ntmps160
 go_wp2_with fail
 refine (C1.out _).mono ?_
 rintro e w1 ⟨rfl, b1⟩
 replace b1 := (balloc (b0 w) _).trans (b1.mono (by simp))
 go_wp2_with fail
 go_ret
 exact ⟨rfl, b1⟩
theorem rfmt_plain (k n : Int) (l : List UInt8) (hl : (k = 0 ∧ l = [110, 117, 108, 108]) ∨ (k = 1 ∧ n = 1 ∧ l = [116, 114, 117, 101]) ∨ (k = 1 ∧ n = 0 ∧ l = [102, 97, 108, 115, 101])) (w : World) (hk : ok ⟨k, n, .empty⟩ = true) : Calls Tryz.prog 160 #[.agg #[.int .i64 k, .int .i64 n, .string .empty]] w fun e w' => e = .returned (.string ⟨l.toArray⟩) ∧ Below w.heap.size w w' := by
 have C1 := Lib.hid (valid_any k n .empty (by decide))
 have V0 := Vx.new w k n .empty 23
 rw [hk] at C1
 clear hk
 rcases hl with ⟨rfl, rfl⟩ | ⟨rfl, rfl, rfl⟩ | ⟨rfl, rfl, rfl⟩
 all_goals
  go_enter Tryz.func160, Tryz.ntmps160
  go_wp2_with fail
  refine (C1.out _).mono ?_
  rintro e w1 ⟨rfl, b1⟩
  obtain ⟨c0, c1, c2⟩ := V0.keeps b1
  replace b1 := (balloc (b0 w) _).trans (b1.mono (by simp))
  go_wp2_with fail
  go_ret
  exact ⟨rfl, b1⟩
theorem rfmt_num2 (n : Int) (h1 : -1152921504606846976 ≤ n) (h2 : n ≤ 1152921504606846976) (w : World) (hk : ok ⟨2, n, .empty⟩ = true) : Calls Tryz.prog 160 #[.agg #[.int .i64 2, .int .i64 n, .string .empty]] w fun e w' => e = .returned (.string ⟨(Lib.itoa n).toArray⟩) ∧ Below w.heap.size w w' := by
 have C1 := Lib.hid (valid_any 2 n .empty (by decide))
 have C2 := Lib.hid (rdig05_any n h1 h2)
 have V0 := Vx.new w 2 n .empty 23
 rw [hk] at C1
 generalize Lib.itoa n = l at *
 clear hk h1 h2
 go_enter Tryz.func160, Tryz.ntmps160
 go_wp2_with fail
 refine (C1.out _).mono ?_
 rintro e w1 ⟨rfl, b1⟩
 obtain ⟨c0, c1, c2⟩ := V0.keeps b1
 replace b1 := (balloc (b0 w) _).trans (b1.mono (by simp))
 go_wp2_with fail
 refine (C2.out _).mono ?_
 rintro e w2 ⟨rfl, b2⟩
 go_wp2_with fail
 go_ret
 exact ⟨rfl, bnext b1 b2⟩
theorem rfmt_num3 (n : Int) (h1 : -1152921504606846976 ≤ n) (h2 : n ≤ 1152921504606846976) (w : World) (hk : ok ⟨3, n, .empty⟩ = true) : Calls Tryz.prog 160 #[.agg #[.int .i64 3, .int .i64 n, .string .empty]] w fun e w' => e = .returned (.string ⟨(foX n).toArray⟩) ∧ Below w.heap.size w w' := by
 have C1 := Lib.hid (valid_any 3 n .empty (by decide))
 have C2 := Lib.hid (rfmt02_any n h1 h2)
 have V0 := Vx.new w 3 n .empty 23
 rw [hk] at C1
 generalize foX n = l at *
 clear hk h1 h2
 go_enter Tryz.func160, Tryz.ntmps160
 go_wp2_with fail
 refine (C1.out _).mono ?_
 rintro e w1 ⟨rfl, b1⟩
 obtain ⟨c0, c1, c2⟩ := V0.keeps b1
 replace b1 := (balloc (b0 w) _).trans (b1.mono (by simp))
 go_wp2_with fail
 refine (C2.out _).mono ?_
 rintro e w2 ⟨rfl, b2⟩
 go_wp2_with fail
 go_ret
 exact ⟨rfl, bnext b1 b2⟩
theorem rfmt_text (s : ByteArray) (hs : s.size ≤ 1000) (w : World) (hk : ok ⟨4, 0, s⟩ = true) : Calls Tryz.prog 160 #[.agg #[.int .i64 4, .int .i64 0, .string s]] w fun e w' => e = .returned (.string ⟨(34 :: (s.data.toList ++ [34])).toArray⟩) ∧ Below w.heap.size w w' := by
 have C1 := Lib.hid (valid_any 4 0 s (by omega))
 have V0 := Vx.new w 4 0 s 23
 rw [hk] at C1
 clear hk
 have A := add_strP [34] s.data.toList (by decide) (by rw [← Lib.size_eq]; omega)
 replace A : ∀ W, (Op.stringOp .add ⟨#[34]⟩ s).run Tryz.prog W = .ok (.string ⟨(34 :: s.data.toList).toArray⟩) W := A
 have B := add_strP (34 :: s.data.toList) [34] (by rw [List.length_cons, ← Lib.size_eq]; omega) (by decide)
 replace B : ∀ W, (Op.stringOp .add ⟨(34 :: s.data.toList).toArray⟩ ⟨#[34]⟩).run Tryz.prog W = .ok (.string ⟨(34 :: (s.data.toList ++ [34])).toArray⟩) W := B
 generalize 34 :: (s.data.toList ++ [34]) = m at *
 generalize 34 :: s.data.toList = l at *
 go_enter Tryz.func160, Tryz.ntmps160
 go_wp2_with fail
 refine (C1.out _).mono ?_
 rintro e w1 ⟨rfl, b1⟩
 obtain ⟨c0, c1, c2⟩ := V0.keeps b1
 replace b1 := (balloc (b0 w) _).trans (b1.mono (by simp))
 go_wp2_with fail
 go_ret
 exact ⟨rfl, b1⟩
theorem rfmt_key (s : ByteArray) (hs : s.size ≤ 1000) (w : World) (hk : ok ⟨5, 0, s⟩ = true) : Calls Tryz.prog 160 #[.agg #[.int .i64 5, .int .i64 0, .string s]] w fun e w' => e = .returned (.string ⟨(64 :: s.data.toList).toArray⟩) ∧ Below w.heap.size w w' := by
 have C1 := Lib.hid (valid_any 5 0 s (by omega))
 have V0 := Vx.new w 5 0 s 23
 rw [hk] at C1
 clear hk
 have A := add_strP [64] s.data.toList (by decide) (by rw [← Lib.size_eq]; omega)
 replace A : ∀ W, (Op.stringOp .add ⟨#[64]⟩ s).run Tryz.prog W = .ok (.string ⟨(64 :: s.data.toList).toArray⟩) W := A
 generalize 64 :: s.data.toList = l at *
 go_enter Tryz.func160, Tryz.ntmps160
 go_wp2_with fail
 refine (C1.out _).mono ?_
 rintro e w1 ⟨rfl, b1⟩
 obtain ⟨c0, c1, c2⟩ := V0.keeps b1
 replace b1 := (balloc (b0 w) _).trans (b1.mono (by simp))
 go_wp2_with fail
 go_ret
 exact ⟨rfl, b1⟩
theorem rformat_any (k n : Int) (s : ByteArray) (hs : s.size ≤ 1000) (w : World) : Calls Tryz.prog 160 #[.agg #[.int .i64 k, .int .i64 n, .string s]] w fun e w' => e = .returned (.string ⟨(fm ⟨k, n, s⟩).toArray⟩) ∧ Below w.heap.size w w' := by
 cases hk : ok ⟨k, n, s⟩
 ·rw [fm_no hk]
  exact rfmt_no k n s hs w hk
 ·rw [fm_ok hk]
  rcases ok_cases hk with e | e | e | ⟨m, e, h1, h2⟩ | ⟨m, e, h1, h2⟩ | ⟨t, e, h1, h2⟩ | ⟨t, e, h0, h1, h2⟩
  ·cases e; exact rfmt_plain 0 0 _ (.inl ⟨rfl, rfl⟩) w hk
  ·cases e; exact rfmt_plain 1 0 _ (.inr (.inr ⟨rfl, rfl, rfl⟩)) w hk
  ·cases e; exact rfmt_plain 1 1 _ (.inr (.inl ⟨rfl, rfl, rfl⟩)) w hk
  ·cases e; exact rfmt_num2 n h1 h2 w hk
  ·cases e; exact rfmt_num3 n h1 h2 w hk
  ·cases e; exact rfmt_text s hs w hk
  ·cases e; exact rfmt_key s hs w hk
end Go.Proofs.YtbahfelnbofjjaaGreatDoor
namespace Go.Proofs.YtbahfelnbofjjaaGreatDoor.ch
open Go.RowKit dec
theorem ok_take {u : List un.Fa} (h : un.Ok u) (j : Nat) : un.Ok (u.take j) :=
 ⟨by rw [List.length_take]; have := h.le; omega, fun x hx => h.good x (List.mem_of_mem_take hx), List.Pairwise.sublist (List.take_sublist j u) h.srt⟩
theorem runit_any (u : List un.Fa) (hu : Un u) (a : Option Addr) (n cap : Nat) (w : World) (hS : un.Sl w a n cap u) : Calls Tryz.prog 114 #[.slice a n cap] w (Sr (B8 (uT u)) w) := by
 obtain ⟨f1, f2, f3, f4⟩ := un_few hu
 have hn := hS.hn
 by_cases h : n = 0
 ·have hu0 : u = [] := List.eq_nil_of_length_eq_zero (by omega)
  have hR := Lib.hid (show B8 (uT u) = .empty by rw [hu0]; rfl)
  have q := in_is (show (n : Int) = 0 by omega)
  clear hu f1 f2 f3 f4 hn hS hu0
  replace h := Lib.hid h
  go_enter Tryz.func114, Tryz.ntmps114
  go_wp2_with fail
  go_ret
  exact sr_of hR.out.symm (b0 w)
 ·have q := in_ne (show (n : Int) ≠ 0 by omega)
  have hne : u ≠ [] := fun e => h (by rw [e] at hn; exact hn.symm)
  have C := Lib.hid (show Calls Tryz.prog 164 #[.slice a n cap] w (Sr (B8 (un.fT u)) w) from (un.rformat_any a n cap u w hS f1 (fun j => by have := un.fT_len (ok_take hu.o j); omega)).mono fun _ _ h => h)
  have A1 := add_b8 [32, 91] (un.fT u) (by decide) (by omega)
  have A2 := add_b8 (32 :: 91 :: un.fT u) [93] (by simp; omega) (by decide)
  have hR := Lib.hid (show B8 (uT u) = B8 (32 :: 91 :: un.fT u ++ [93]) by unfold uT; rw [if_neg hne]; rfl)
  replace A1 : ∀ W, (Op.stringOp .add ⟨#[32, 91]⟩ (B8 (un.fT u))).run Tryz.prog W = .ok (.string (B8 (32 :: 91 :: un.fT u))) W := A1
  replace A2 : ∀ W, (Op.stringOp .add (B8 (32 :: 91 :: un.fT u)) ⟨#[93]⟩).run Tryz.prog W = .ok (.string (B8 (32 :: 91 :: un.fT u ++ [93]))) W := A2
  clear hu f1 f2 f3 f4 hn hS hne
  replace h := Lib.hid h
  rw [hR.out]
  clear hR
  generalize B8 (un.fT u) = s1 at *
  generalize B8 (32 :: 91 :: un.fT u) = s2 at *
  generalize B8 (32 :: 91 :: un.fT u ++ [93]) = s3 at *
  go_enter Tryz.func114, Tryz.ntmps114
  go_wp2_with fail
  refine C.out.mono ?_
  rintro e w1 ⟨rfl, b1⟩
  have B1 := Lib.hid b1
  clear b1 C
  go_wp2_with fail
  go_ret
  exact sr_of rfl B1.out
theorem rtypeText_any (t : Ty) (ua : Option Addr) (uc : Nat) (w : World) (ht : tyE t = 0) (hU : un.Sl w ua t.un.length uc t.un) : Calls Tryz.prog 54 #[.agg (tyC t ua uc)] w (Sr (B8 (tyT t)) w) := by
 rcases tyE_cases ht with (rfl | rfl) | ⟨s, rfl, hs⟩ | ⟨u, rfl | rfl, hu⟩
 ·clear hU ht
  have BB := Lib.hid (balloc (b0 w) (.cells #[.int .i64 1, .slice ua 0 uc, .string .empty] 31))
  unfold tyC
  go_enter Tryz.func54, Tryz.ntmps54
  go_wp2_with fail
  go_ret
  exact sr_of rfl BB.out
 ·clear hU ht
  have BB := Lib.hid (balloc (b0 w) (.cells #[.int .i64 4, .slice ua 0 uc, .string .empty] 31))
  unfold tyC
  go_enter Tryz.func54, Tryz.ntmps54
  go_wp2_with fail
  go_ret
  exact sr_of rfl BB.out
 ·have hl := name_len hs
  have BB := Lib.hid (balloc (b0 w) (.cells #[.int .i64 5, .slice ua 0 uc, .string s] 31))
  have A1 := add_b8 [107, 101, 121, 32] s.data.toList (by decide) (by omega)
  replace A1 : ∀ W, (Op.stringOp .add ⟨#[107, 101, 121, 32]⟩ s).run Tryz.prog W = .ok (.string (B8 ([107, 101, 121, 32] ++ s.data.toList))) W := A1
  have hR := Lib.hid (show B8 (tyT ⟨5, [], s⟩) = B8 ([107, 101, 121, 32] ++ s.data.toList) from rfl)
  rw [hR.out]
  clear hU ht hs hl hR
  generalize B8 ([107, 101, 121, 32] ++ s.data.toList) = s3 at *
  unfold tyC
  go_enter Tryz.func54, Tryz.ntmps54
  go_wp2_with fail
  go_ret
  exact sr_of rfl BB.out
 ·have hl := (un_few hu).2.2.2
  have bb := balloc (b0 w) (.cells #[.int .i64 2, .slice ua u.length uc, .string .empty] 31)
  have BB := Lib.hid bb
  have C := Lib.hid (runit_any u hu ua u.length uc _ (hU.keeps bb))
  have hul : (uT u).length ≤ 203 := uT_len hu
  have A1 := add_b8 [105, 110, 116] (uT u) (by decide) (by omega)
  replace A1 : ∀ W, (Op.stringOp .add ⟨#[105, 110, 116]⟩ (B8 (uT u))).run Tryz.prog W = .ok (.string (B8 ([105, 110, 116] ++ uT u))) W := A1
  have hR := Lib.hid (show B8 (tyT ⟨2, u, .empty⟩) = B8 ([105, 110, 116] ++ uT u) from rfl)
  rw [hR.out]
  clear hU ht hu hl hR bb hul
  generalize B8 ([105, 110, 116] ++ uT u) = s3 at *
  generalize B8 (uT u) = s2 at *
  unfold tyC
  go_enter Tryz.func54, Tryz.ntmps54
  go_wp2_with fail
  refine C.out.mono ?_
  rintro e w1 ⟨rfl, b1⟩
  have B1 := Lib.hid (bnext BB.out b1)
  clear b1 C
  go_wp2_with fail
  go_ret
  exact sr_of rfl B1.out
 ·have hl := (un_few hu).2.2.2
  have bb := balloc (b0 w) (.cells #[.int .i64 3, .slice ua u.length uc, .string .empty] 31)
  have BB := Lib.hid bb
  have C := Lib.hid (runit_any u hu ua u.length uc _ (hU.keeps bb))
  have hul : (uT u).length ≤ 203 := uT_len hu
  have A1 := add_b8 [100, 101, 99] (uT u) (by decide) (by omega)
  replace A1 : ∀ W, (Op.stringOp .add ⟨#[100, 101, 99]⟩ (B8 (uT u))).run Tryz.prog W = .ok (.string (B8 ([100, 101, 99] ++ uT u))) W := A1
  have hR := Lib.hid (show B8 (tyT ⟨3, u, .empty⟩) = B8 ([100, 101, 99] ++ uT u) from rfl)
  rw [hR.out]
  clear hU ht hu hl hR bb hul
  generalize B8 ([100, 101, 99] ++ uT u) = s3 at *
  generalize B8 (uT u) = s2 at *
  unfold tyC
  go_enter Tryz.func54, Tryz.ntmps54
  go_wp2_with fail
  refine C.out.mono ?_
  rintro e w1 ⟨rfl, b1⟩
  have B1 := Lib.hid (bnext BB.out b1)
  clear b1 C
  go_wp2_with fail
  go_ret
  exact sr_of rfl B1.out
theorem rwindow_any (k n : Int) (hw : winH k n = true) (w : World) : Calls Tryz.prog 161 #[.agg #[.int .i64 k, .int .i64 n]] w (Sr (B8 (wiT k n)) w) := by
 have bb := balloc (b0 w) (.cells #[.int .i64 k, .int .i64 n] 26)
 have BB := Lib.hid bb
 clear bb
 rcases winH_cases hw with ⟨rfl, rfl⟩ | ⟨hk, h2, h3⟩
 ·clear hw
  go_enter Tryz.func161, Tryz.ntmps161
  go_wp2_with fail
  go_ret
  exact sr_of rfl BB.out
 ·have hl := itoa_le n (by omega) (by omega)
  have CD := Lib.hid (fun (W : World) => (show Calls Tryz.prog 59 #[.int .i64 n] W (Sr (B8 (Lib.itoa n)) W) from (rdig05_any n (by omega) (by omega) W).mono fun _ _ h => h))
  rcases hk with rfl | rfl | rfl
  ·have A1 := add_b8 [115, 108, 105, 100, 105, 110, 103, 32] (Lib.itoa n) (by decide) (by omega)
   replace A1 : ∀ W, (Op.stringOp .add ⟨#[115, 108, 105, 100, 105, 110, 103, 32]⟩ (B8 (Lib.itoa n))).run Tryz.prog W = .ok (.string (B8 ([115, 108, 105, 100, 105, 110, 103, 32] ++ Lib.itoa n))) W := A1
   have hR := Lib.hid (show B8 (wiT 2 n) = B8 ([115, 108, 105, 100, 105, 110, 103, 32] ++ Lib.itoa n) from rfl)
   rw [hR.out]
   clear hw hl hR h2 h3
   generalize B8 ([115, 108, 105, 100, 105, 110, 103, 32] ++ Lib.itoa n) = s3 at *
   generalize B8 (Lib.itoa n) = s2 at *
   go_enter Tryz.func161, Tryz.ntmps161
   go_wp2_with fail
   refine (CD.out _).mono ?_
   rintro e w1 ⟨rfl, b1⟩
   have B1 := Lib.hid (bnext BB.out b1)
   clear b1 CD
   go_wp2_with fail
   go_ret
   exact sr_of rfl B1.out
  ·have A1 := add_b8 [116, 117, 109, 98, 108, 105, 110, 103, 32] (Lib.itoa n) (by decide) (by omega)
   replace A1 : ∀ W, (Op.stringOp .add ⟨#[116, 117, 109, 98, 108, 105, 110, 103, 32]⟩ (B8 (Lib.itoa n))).run Tryz.prog W = .ok (.string (B8 ([116, 117, 109, 98, 108, 105, 110, 103, 32] ++ Lib.itoa n))) W := A1
   have hR := Lib.hid (show B8 (wiT 3 n) = B8 ([116, 117, 109, 98, 108, 105, 110, 103, 32] ++ Lib.itoa n) from rfl)
   rw [hR.out]
   clear hw hl hR h2 h3
   generalize B8 ([116, 117, 109, 98, 108, 105, 110, 103, 32] ++ Lib.itoa n) = s3 at *
   generalize B8 (Lib.itoa n) = s2 at *
   go_enter Tryz.func161, Tryz.ntmps161
   go_wp2_with fail
   refine (CD.out _).mono ?_
   rintro e w1 ⟨rfl, b1⟩
   have B1 := Lib.hid (bnext BB.out b1)
   clear b1 CD
   go_wp2_with fail
   go_ret
   exact sr_of rfl B1.out
  ·have A1 := add_b8 [115, 101, 115, 115, 105, 111, 110, 32] (Lib.itoa n) (by decide) (by omega)
   replace A1 : ∀ W, (Op.stringOp .add ⟨#[115, 101, 115, 115, 105, 111, 110, 32]⟩ (B8 (Lib.itoa n))).run Tryz.prog W = .ok (.string (B8 ([115, 101, 115, 115, 105, 111, 110, 32] ++ Lib.itoa n))) W := A1
   have hR := Lib.hid (show B8 (wiT 4 n) = B8 ([115, 101, 115, 115, 105, 111, 110, 32] ++ Lib.itoa n) from rfl)
   rw [hR.out]
   clear hw hl hR h2 h3
   generalize B8 ([115, 101, 115, 115, 105, 111, 110, 32] ++ Lib.itoa n) = s3 at *
   generalize B8 (Lib.itoa n) = s2 at *
   go_enter Tryz.func161, Tryz.ntmps161
   go_wp2_with fail
   refine (CD.out _).mono ?_
   rintro e w1 ⟨rfl, b1⟩
   have B1 := Lib.hid (bnext BB.out b1)
   clear b1 CD
   go_wp2_with fail
   go_ret
   exact sr_of rfl B1.out
theorem roper_una (op : ByteArray) (ho : op = ⟨#[45]⟩ ∨ op = ⟨#[110, 111, 116]⟩ ∨ op = ⟨#[110, 117, 108, 108]⟩) (w : World) : Calls Tryz.prog 229 #[.int .i64 6, .string op] w fun e w' => e = .returned (.int .i64 (if op = ⟨#[110, 111, 116]⟩ then 4 else if op = ⟨#[45]⟩ then 8 else 9)) ∧ w' = w := by
 rcases ho with rfl | rfl | rfl
 all_goals
  go_enter Tryz.func229, Tryz.ntmps229
  go_wp2_with fail
  go_ret
  exact ⟨rfl, rfl⟩
theorem roper_bin (op : ByteArray) (ho : op = ⟨#[43]⟩ ∨ op = ⟨#[45]⟩ ∨ op = ⟨#[42]⟩ ∨ op = ⟨#[47]⟩ ∨ op = ⟨#[61, 61]⟩ ∨ op = ⟨#[33, 61]⟩ ∨ op = ⟨#[60]⟩ ∨ op = ⟨#[60, 61]⟩ ∨ op = ⟨#[97, 110, 100]⟩ ∨ op = ⟨#[111, 114]⟩) (w : World) : Calls Tryz.prog 229 #[.int .i64 7, .string op] w fun e w' => e = .returned (.int .i64 (rkO op)) ∧ w' = w := by
 rcases ho with rfl | rfl | rfl | rfl | rfl | rfl | rfl | rfl | rfl | rfl
 all_goals
  go_enter Tryz.func229, Tryz.ntmps229
  go_wp2_with fail
  go_ret
  exact ⟨rfl, rfl⟩
end Go.Proofs.YtbahfelnbofjjaaGreatDoor.ch
namespace Go.Proofs.YtbahfelnbofjjaaGreatDoor.ch
open Go.RowKit dec
theorem nod_oper {i : Bool} {g h : Hd} {n : Nat} (N : Nod i g h n) : (h.k = 6 ∨ h.k = 7) → ∀ W, Calls Tryz.prog 229 #[.int .i64 h.k, .string h.op] W fun e w' => e = .returned (.int .i64 (rk h)) ∧ w' = W := by
 intro hk W
 cases N with
 | una op ho => exact roper_una op ho W
 | bin op ho => exact roper_bin op ho W
 | boo n e => exact absurd hk (by show ¬ ((1 : Int) = 6 ∨ (1 : Int) = 7); decide)
 | num k n u hk' h0 h1 hu => exact absurd hk (by show ¬ ((1 : Int) = 6 ∨ (1 : Int) = 7); decide)
 | tex s h1 h2 => exact absurd hk (by show ¬ ((1 : Int) = 6 ∨ (1 : Int) = 7); decide)
 | key m s hm h0 h1 h2 => exact absurd hk (by show ¬ ((1 : Int) = 6 ∨ (1 : Int) = 7); decide)
 | fie m hi hm => exact absurd hk (by show ¬ ((2 : Int) = 6 ∨ (2 : Int) = 7); decide)
 | fea m hi hm => exact absurd hk (by show ¬ ((3 : Int) = 6 ∨ (3 : Int) = 7); decide)
 | loo m hi hm => exact absurd hk (by show ¬ ((4 : Int) = 6 ∨ (4 : Int) = 7); decide)
 | agg op t p wk ws hi ht hp hw hc => exact absurd hk (by show ¬ ((5 : Int) = 6 ∨ (5 : Int) = 7); decide)
 | iff => exact absurd hk (by show ¬ ((8 : Int) = 6 ∨ (8 : Int) = 7); decide)
 | dfl => exact absurd hk (by show ¬ ((9 : Int) = 6 ∨ (9 : Int) = 7); decide)
theorem rrank_any (h : Hd) (n : Nat) (ua aa : Option Addr) (uc ac : Nat) (w : World) (hO : (h.k = 6 ∨ h.k = 7) → ∀ W, Calls Tryz.prog 229 #[.int .i64 h.k, .string h.op] W fun e w' => e = .returned (.int .i64 (rk h)) ∧ w' = W) : Calls Tryz.prog 162 #[.agg (exC h n ua uc aa ac)] w (Num (rk h) w) := by
 have bb := balloc (b0 w) (.cells (exC h n ua uc aa ac) 29)
 have B0 := Lib.hid bb
 have G := Lib.hid (Blk.new w 29 (exC h n ua uc aa ac))
 clear bb
 have HO := Lib.hid hO
 clear hO
 unfold exC at *
 go_enter Tryz.func162, Tryz.ntmps162
 go_upto_region 1 with fail
 generalize hw0 : (w.alloc (.cells #[.int .i64 h.k, .string h.op, .string h.nm, .string h.tb, .int .i64 h.vk, .int .i64 h.vn, .string h.vs, .slice ua h.un.length uc, .int .i64 h.pa, .int .i64 h.wk, .int .i64 h.ws, .slice aa n ac] 29)) = w0 at *
 generalize hg2 : w.heap.size = g2 at G ⊢
 clear hw0 hg2
 have c0 := G.out.cell 0
 have c1 := G.out.cell 1
 simp only [List.getElem?_toArray, List.getElem?_cons_zero, List.getElem?_cons_succ] at c0 c1
 by_cases h8 : h.k = 8
 ·have hR := Lib.hid (show rk h = 0 by unfold rk; simp [h8])
  have q8 := in_is h8
  replace h8 := Lib.hid h8
  go_wp2_with fail
  go_ret
  exact ⟨congrArg (fun v => Ending.returned (Value.int .i64 v)) hR.out.symm, B0.out⟩
 ·have q8 := in_ne h8
  by_cases h9 : h.k = 9
  ·have hR := Lib.hid (show rk h = 1 by unfold rk; simp [h9])
   have q9 := in_is h9
   replace h9 := Lib.hid h9
   go_wp2_with fail
   go_ret
   exact ⟨congrArg (fun v => Ending.returned (Value.int .i64 v)) hR.out.symm, B0.out⟩
  ·have q9 := in_ne h9
   by_cases h6 : h.k = 6
   ·replace HO := Lib.hid (HO.out (by omega))
    have q6 := in_is h6
    replace h6 := Lib.hid h6
    replace h8 := Lib.hid h8
    replace h9 := Lib.hid h9
    go_wp2_with fail
    refine (HO.out _).mono ?_
    rintro e w1 ⟨rfl, rfl⟩
    go_wp2_with fail
    go_ret
    exact ⟨rfl, B0.out⟩
   ·have q6 := in_ne h6
    by_cases h7 : h.k = 7
    ·replace HO := Lib.hid (HO.out (by omega))
     have q7 := in_is h7
     replace h7 := Lib.hid h7
     replace h8 := Lib.hid h8
     replace h9 := Lib.hid h9
     go_wp2_with fail
     refine (HO.out _).mono ?_
     rintro e w1 ⟨rfl, rfl⟩
     go_wp2_with fail
     go_ret
     exact ⟨rfl, B0.out⟩
    ·have q7 := in_ne h7
     have hR := Lib.hid (show rk h = 9 by unfold rk; simp [h6, h7, h8, h9])
     go_wp2_with fail
     go_ret
     exact ⟨congrArg (fun v => Ending.returned (Value.int .i64 v)) hR.out.symm, B0.out⟩
theorem rkey_any (h : Hd) (n : Nat) (ua aa : Option Addr) (uc ac : Nat) (w : World) (hk : h.vk = 5) (h1 : h.nm.data.toList.length ≤ 1000) (h2 : h.vs.data.toList.length ≤ 1000) : Calls Tryz.prog 108 #[.agg (exC h n ua uc aa ac)] w (Sr (B8 (liT h)) w) := by
 have bb := balloc (b0 w) (.cells (exC h n ua uc aa ac) 29)
 have B0 := Lib.hid bb
 have G := Lib.hid (Blk.new w 29 (exC h n ua uc aa ac))
 clear bb
 have hR := Lib.hid (show B8 (liT h) = B8 ((((64 :: h.nm.data.toList) ++ [32, 34]) ++ h.vs.data.toList) ++ [34]) by unfold liT; rw [if_pos hk]; simp)
 have A1 := add_b8 [64] h.nm.data.toList (by decide) (by omega)
 have A2 := add_b8 (64 :: h.nm.data.toList) [32, 34] (by simp only [List.length_cons]; omega) (by decide)
 have A3 := add_b8 ((64 :: h.nm.data.toList) ++ [32, 34]) h.vs.data.toList (by simp only [List.length_cons, List.length_append, List.length_nil]; omega) (by omega)
 have A4 := add_b8 (((64 :: h.nm.data.toList) ++ [32, 34]) ++ h.vs.data.toList) [34] (by simp only [List.length_cons, List.length_append, List.length_nil]; omega) (by decide)
 replace A1 : ∀ W, (Op.stringOp .add ⟨#[64]⟩ h.nm).run Tryz.prog W = .ok (.string (B8 (64 :: h.nm.data.toList))) W := A1
 replace A2 : ∀ W, (Op.stringOp .add (B8 (64 :: h.nm.data.toList)) ⟨#[32, 34]⟩).run Tryz.prog W = .ok (.string (B8 ((64 :: h.nm.data.toList) ++ [32, 34]))) W := A2
 replace A3 : ∀ W, (Op.stringOp .add (B8 ((64 :: h.nm.data.toList) ++ [32, 34])) h.vs).run Tryz.prog W = .ok (.string (B8 (((64 :: h.nm.data.toList) ++ [32, 34]) ++ h.vs.data.toList))) W := A3
 replace A4 : ∀ W, (Op.stringOp .add (B8 (((64 :: h.nm.data.toList) ++ [32, 34]) ++ h.vs.data.toList)) ⟨#[34]⟩).run Tryz.prog W = .ok (.string (B8 ((((64 :: h.nm.data.toList) ++ [32, 34]) ++ h.vs.data.toList) ++ [34]))) W := A4
 rw [hR.out]
 clear hR h1 h2
 generalize B8 ((((64 :: h.nm.data.toList) ++ [32, 34]) ++ h.vs.data.toList) ++ [34]) = s5 at *
 generalize B8 (((64 :: h.nm.data.toList) ++ [32, 34]) ++ h.vs.data.toList) = s4 at *
 generalize B8 ((64 :: h.nm.data.toList) ++ [32, 34]) = s3 at *
 generalize B8 (64 :: h.nm.data.toList) = s2 at *
 have q5 := in_is hk
 replace hk := Lib.hid hk
 unfold exC at *
 go_enter Tryz.func108, Tryz.ntmps108
 go_upto_region 1 with fail
 generalize hw0 : (w.alloc (.cells #[.int .i64 h.k, .string h.op, .string h.nm, .string h.tb, .int .i64 h.vk, .int .i64 h.vn, .string h.vs, .slice ua h.un.length uc, .int .i64 h.pa, .int .i64 h.wk, .int .i64 h.ws, .slice aa n ac] 29)) = w0 at *
 generalize hg2 : w.heap.size = g2 at G ⊢
 clear hw0 hg2
 have c2 := G.out.cell 2
 have c4 := G.out.cell 4
 have c6 := G.out.cell 6
 simp only [List.getElem?_toArray, List.getElem?_cons_zero, List.getElem?_cons_succ] at c2 c4 c6
 go_wp2_with fail
 go_ret
 exact sr_of rfl B0.out
theorem rlit_any (h : Hd) (n : Nat) (ua aa : Option Addr) (uc ac : Nat) (w : World) (hk : h.vk ≠ 5) (hu : Un h.un) (h1 : h.vs.size ≤ 1000) (h2 : (fm ⟨h.vk, h.vn, h.vs⟩).length ≤ 1000) (hU : un.Sl w ua h.un.length uc h.un) : Calls Tryz.prog 108 #[.agg (exC h n ua uc aa ac)] w (Sr (B8 (liT h)) w) := by
 have bb := balloc (b0 w) (.cells (exC h n ua uc aa ac) 29)
 have B0 := Lib.hid bb
 have G := Lib.hid (Blk.new w 29 (exC h n ua uc aa ac))
 have HU := Lib.hid (hU.keeps bb)
 clear bb
 have hR := Lib.hid (show B8 (liT h) = B8 (fm ⟨h.vk, h.vn, h.vs⟩ ++ uT h.un) by unfold liT; rw [if_neg hk])
 have hul := uT_len hu
 have CF := Lib.hid (fun (W : World) => (show Calls Tryz.prog 160 #[.agg #[.int .i64 h.vk, .int .i64 h.vn, .string h.vs]] W (Sr (B8 (fm ⟨h.vk, h.vn, h.vs⟩)) W) from (rformat_any h.vk h.vn h.vs h1 W).mono fun _ _ h => h))
 have CU := Lib.hid (fun (W : World) (S : un.Sl W ua h.un.length uc h.un) => runit_any h.un hu ua h.un.length uc W S)
 have A1 := add_b8 (fm ⟨h.vk, h.vn, h.vs⟩) (uT h.un) (by omega) (by omega)
 rw [hR.out]
 clear hR h1 h2 hul hU
 generalize B8 (fm ⟨h.vk, h.vn, h.vs⟩ ++ uT h.un) = s3 at *
 generalize B8 (fm ⟨h.vk, h.vn, h.vs⟩) = s1 at *
 generalize B8 (uT h.un) = s2 at *
 have q5 := in_ne hk
 replace hk := Lib.hid hk
 unfold exC at *
 go_enter Tryz.func108, Tryz.ntmps108
 go_upto_region 1 with fail
 generalize hw0 : (w.alloc (.cells #[.int .i64 h.k, .string h.op, .string h.nm, .string h.tb, .int .i64 h.vk, .int .i64 h.vn, .string h.vs, .slice ua h.un.length uc, .int .i64 h.pa, .int .i64 h.wk, .int .i64 h.ws, .slice aa n ac] 29)) = w0 at *
 generalize hg2 : w.heap.size = g2 at G ⊢
 clear hw0 hg2
 have c4 := G.out.cell 4
 simp only [List.getElem?_toArray, List.getElem?_cons_zero, List.getElem?_cons_succ] at c4
 have R4 := Lib.hid (blk_range G.out 4 [.int .i64 h.vk, .int .i64 h.vn, .string h.vs] rfl)
 go_upto_region 3 with fail
 clear c4
 refine wp_region_held_drew (S := fun w' => Below w0.heap.size w0 w') (by kernel_rfl) (b0 w0).drew (fun hH => ?_)
 refine held_take (i := 0) (d := 16) (v := ?_) rfl (by kernel_rfl) (by kernel_rfl) (by kernel_rfl) rfl (fun _ _ _ h => h) rfl hH (fun w' hS => ?_) ?_
 rotate_left
 ·go_simp; first | done | with_reducible rfl
 simp only [List.set_cons_zero, List.set_cons_succ]
 refine held_take (i := 1) (d := 17) (v := .agg #[.int .i64 h.vk, .int .i64 h.vn, .string h.vs]) rfl (by kernel_rfl) (by kernel_rfl) (by kernel_rfl) rfl (fun _ _ _ h => h) rfl hH (fun w' hS => yield_loadM infVa Tryz.underlying23 rfl (.tmp 16) rfl g2 4 #[.int .i64 h.vk, .int .i64 h.vn, .string h.vs] rfl (range_keeps R4.out hS) rfl) ?_
 simp only [List.set_cons_zero, List.set_cons_succ]
 refine held_take (i := 3) (d := 19) (v := ?_) rfl (by kernel_rfl) (by kernel_rfl) (by kernel_rfl) rfl (fun _ _ _ h => h) rfl hH (fun w' hS => ?_) ?_
 rotate_left
 ·go_simp; first | done | with_reducible rfl
 simp only [List.set_cons_zero, List.set_cons_succ]
 refine held_take (i := 4) (d := 20) (v := ?_) rfl (by kernel_rfl) (by kernel_rfl) (by kernel_rfl) rfl (fun _ _ _ h => h) rfl hH (fun w' hS => ?_) ?_
 rotate_left
 ·have m7 := (G.out.keeps hS).cell 7; simp only [List.getElem?_toArray, List.getElem?_cons_zero, List.getElem?_cons_succ] at m7; go_simp; first | done | with_reducible rfl
 simp only [List.set_cons_zero, List.set_cons_succ]
 generalize w0.drew = yy at *
 refine held_only (i := 2) rfl (by kernel_rfl) rfl (fun K hK => ?_)
 go_simp
 refine (CF.out _).mono ?_
 rintro e y31 ⟨rfl, b31⟩
 skip
 refine hK.out _ _ (bnext hH b31) (fun hH => ?_)
 clear hK K
 clear b31
 refine held_only (i := 5) rfl (by kernel_rfl) rfl (fun K hK => ?_)
 go_simp
 refine (CU.out _ (HU.out.keeps hH)).mono ?_
 rintro e y32 ⟨rfl, b32⟩
 skip
 refine hK.out _ _ (bnext hH b32) (fun hH => ?_)
 clear hK K
 clear b32
 refine held_take (i := 6) (d := 22) (v := ?_) rfl (by kernel_rfl) (by kernel_rfl) (by kernel_rfl) rfl (fun _ _ _ h => h) rfl hH (fun w' hS => ?_) ?_
 rotate_left
 ·have A := A1 w'; go_simp; first | done | (simp only [A]; done) | with_reducible rfl | exact A
 simp only [List.set_cons_zero, List.set_cons_succ]
 refine held_take (i := 7) (d := 2) (v := ?_) rfl (by kernel_rfl) (by kernel_rfl) (by kernel_rfl) rfl (fun _ _ _ h => h) rfl hH (fun w' hS => ?_) ?_
 rotate_left
 ·go_simp; first | done | with_reducible rfl
 simp only [List.set_cons_zero, List.set_cons_succ]
 refine wpAnyH_done (by kernel_rfl) ?_ _
 go_wp2_with fail
 go_ret
 exact sr_of rfl (bnext B0.out hH)
end Go.Proofs.YtbahfelnbofjjaaGreatDoor.ch

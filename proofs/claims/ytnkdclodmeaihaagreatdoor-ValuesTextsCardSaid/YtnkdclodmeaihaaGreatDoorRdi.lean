/-
  The reference's Digits and Format of decimals: for every number in range.
-/
import Derived.Test.YtnkdclodmeaihaaGreatDoorTbs
namespace Go.Proofs.YtnkdclodmeaihaaGreatDoor
open Go.RowKit dec

/-- The last i digits of u. -/
def sfd (u : Nat) : Nat → List UInt8
  | 0 => []
  | i + 1 => Lib.dg u i :: sfd u i
theorem sfd_eq (u : Nat) : ∀ i, sfd u i = (List.range i).map fun t => Lib.dg u (i - 1 - t)
  | 0 => rfl
  | i + 1 => by
    rw [sfd, sfd_eq u i, List.range_succ_eq_map, List.map_cons, List.map_map]
    congr 1
    refine List.map_congr_left fun t ht => ?_
    have := List.mem_range.1 ht
    simp only [Function.comp]
    congr 1
    omega
theorem sfd_len (u i : Nat) : (sfd u i).length = i := by rw [sfd_eq]; simp
/-- Where the loop ends, all digits stand there. -/
theorem sfd_all {u i : Nat} (h1 : 1 ≤ i) (h2 : u / 10 ^ i = 0) (h3 : i = 1 ∨ u / 10 ^ (i - 1) ≠ 0) : sfd u i = Lib.decDigits u := by
  have hp : 0 < 10 ^ i := Nat.pow_pos (by decide)
  have hlt : u < 10 ^ i := by
    rcases Nat.div_eq_zero_iff.1 h2 with h | h
    · omega
    · exact h
  have hn : Lib.nDigits u = i := by
    rcases h3 with rfl | h3
    · exact Lib.nDigits_small (by simpa using hlt)
    · obtain ⟨j, rfl⟩ : ∃ j, i = j + 1 := ⟨i - 1, by omega⟩
      rw [Nat.add_sub_cancel] at h3
      have hq : 0 < 10 ^ j := Nat.pow_pos (by decide)
      exact Lib.nDigits_unique j u (by
        rcases Nat.lt_or_ge u (10 ^ j) with h | h
        · exact absurd (Nat.div_eq_of_lt h) h3
        · exact h) hlt
  rw [sfd_eq, Lib.decDigits_eq, hn]
/-- .. with the point in front of the last six. -/
def sfp (u : Nat) : Nat → List UInt8
  | 0 => []
  | i + 1 => if i = 6 then Lib.dg u i :: 46 :: sfp u i else Lib.dg u i :: sfp u i
theorem sfp_low (u : Nat) : ∀ i, i ≤ 6 → sfp u i = sfd u i
  | 0, _ => rfl
  | i + 1, h => by rw [sfp, sfd, if_neg (by omega), sfp_low u i (by omega)]
theorem sfp_high (u : Nat) : ∀ m, sfp u (6 + (m + 1)) = sfd (u / 1000000) (m + 1) ++ 46 :: frac u
  | 0 => by
    rw [show 6 + (0 + 1) = 6 + 1 from rfl, sfp, if_pos rfl, sfp_low u 6 (by omega)]
    show Lib.dg u 6 :: 46 :: frac u = Lib.dg (u / 1000000) 0 :: 46 :: frac u
    congr 1
    unfold Lib.dg
    simp
  | m + 1 => by
    rw [show 6 + (m + 1 + 1) = (6 + (m + 1)) + 1 by omega, sfp, if_neg (by omega), sfp_high u m, sfd, List.cons_append]
    congr 1
    unfold Lib.dg
    rw [Nat.div_div_eq_div_mul, show (1000000 : Nat) = 10 ^ 6 from rfl, ← Nat.pow_add]
theorem sfp_len (u : Nat) : ∀ i, (sfp u i).length ≤ i + 1
  | i => by
    rcases Nat.lt_or_ge i 7 with h | h
    · rw [sfp_low u i (by omega), sfd_len]; omega
    · obtain ⟨m, rfl⟩ : ∃ m, i = 6 + (m + 1) := ⟨i - 7, by omega⟩
      rw [sfp_high, List.length_append, List.length_cons, sfd_len, frac_len]; omega
theorem sfp_all {u i : Nat} (h1 : 7 ≤ i) (h2 : u / 10 ^ i = 0) (h3 : i = 7 ∨ u / 10 ^ (i - 1) ≠ 0) : sfp u i = bod u := by
  obtain ⟨m, rfl⟩ : ∃ m, i = 6 + (m + 1) := ⟨i - 7, by omega⟩
  have hd : ∀ j, u / 10 ^ (6 + j) = u / 1000000 / 10 ^ j := fun j => by rw [Nat.pow_add, ← Nat.div_div_eq_div_mul]
  rw [hd] at h2
  rw [sfp_high, sfd_all (by omega) h2 (by
    rcases h3 with h3 | h3
    · exact .inl (by omega)
    · refine .inr ?_
      rw [show 6 + (m + 1) - 1 = 6 + (m + 1 - 1) by omega, hd] at h3
      exact h3)]
  rfl
theorem one_str (x : Nat) (hx : x < 10) (w : World) : (convert 32 9 (.slice (some ⟨w.heap.size, 0, none⟩) 1 1)).run Tryz.prog (w.alloc (.cells #[.int .u8 (48 + (x : Int))] 5)) = .ok (.string ⟨[UInt8.ofNat (48 + x)].toArray⟩) (w.alloc (.cells #[.int .u8 (48 + (x : Int))] 5)) := by
  have h := run_str (one_new w (48 + (x : Int)) (48 + x) (by omega) (by omega)) 1 1 rfl
  exact h
theorem pow_big {i : Nat} (h : 19 ≤ i) : 10000000000000000000 ≤ 10 ^ i := Nat.le_trans (by decide) (Nat.pow_le_pow_right (by decide) h)
/-- How far the loops go. -/
theorem loop_low {u i m : Nat} (hu : u ≤ 1152921504606846976) (h : i ≤ m ∨ u / 10 ^ (i - 1) ≠ 0) (hm : m ≤ 19) : i ≤ 20 := by
  rcases h with h | h
  · omega
  · rcases Nat.lt_or_ge i 20 with h1 | h1
    · omega
    · have := pow_big (i := i - 1) (by omega)
      exact absurd (Nat.div_eq_of_lt (by omega)) h
theorem step_nat (v : Nat) : ((v : Int)).tmod 10 = ((v % 10 : Nat) : Int) ∧ ((v : Int)).tdiv 10 = ((v / 10 : Nat) : Int) := ⟨by rfl, by rfl⟩
theorem step_neg (v : Nat) : (-(v : Int)).tmod 10 = -((v % 10 : Nat) : Int) ∧ (-(v : Int)).tdiv 10 = -((v / 10 : Nat) : Int) := by
  rw [Int.neg_tmod, Int.neg_tdiv]
  exact ⟨by rfl, by rfl⟩
set_option maxRecDepth 100000 in
set_option maxHeartbeats 2000000 in
theorem digits05_pos (u : Nat) (hu : u ≤ 1152921504606846976) (w : World) : Calls Tryz.prog 28 #[.int .i64 ((u : Int))] w fun e w' => e = .returned (.string ⟨(Lib.decDigits u).toArray⟩) ∧ Below w.heap.size w w' := by
  go_enter Tryz.func28, Tryz.ntmps28
  go_wp2_with fail
  go_loopw [3, 4, 5] (fun x y z wr => ∃ i : Nat, x = .string ⟨(sfd u i).toArray⟩ ∧ y = .int .i64 (((u / 10 ^ i : Nat) : Int)) ∧ z = .int .i64 (i : Nat) ∧ (i ≤ 1 ∨ u / 10 ^ (i - 1) ≠ 0) ∧ Below w.heap.size w wr) (fun _ y z _ => 2 * (intOf y).natAbs + (1 - (intOf z).toNat))
  case atStart => exact ⟨0, rfl, by rw [Nat.pow_zero, Nat.div_one], rfl, .inl (by omega), Below.refl _ _⟩
  case round =>
    obtain ⟨i, rfl, rfl, rfl, hi, hb⟩ := hrel
    have hlow := loop_low hu hi (by decide)
    have hsl : (sfd u i).length ≤ 1000 := by rw [sfd_len]; omega
    have hv0 : u / 10 ^ i ≤ 1152921504606846976 := Nat.le_trans (Nat.div_le_self _ _) hu
    by_cases hc : i < 1 ∨ u / 10 ^ i ≠ 0
    · have hnext : u / 10 ^ (i + 1) = u / 10 ^ i / 10 := by rw [Nat.pow_succ, Nat.div_div_eq_div_mul]
      have hprev : i + 1 ≤ 1 ∨ u / 10 ^ (i + 1 - 1) ≠ 0 := by rw [Nat.add_sub_cancel]; omega
      have hdg : Lib.dg u i = UInt8.ofNat (48 + u / 10 ^ i % 10) := rfl
      have hstep : sfd u (i + 1) = Lib.dg u i :: sfd u i := rfl
      rw [hdg] at hstep
      generalize sfd u i = L at *
      generalize hv : u / 10 ^ i = v at *
      obtain ⟨x, hx⟩ : ∃ x, v % 10 = x := ⟨_, rfl⟩
      have hx10 : x < 10 := by rw [← hx]; exact Nat.mod_lt _ (by decide)
      obtain ⟨g1, g2⟩ := step_nat v
      rw [hx] at g1 hstep
      have hw : IntKind.u8.wrap (48 + (x : Int)) = 48 + (x : Int) := by rw [IntKind.wrap_u8]; omega
      have hcv := one_str x hx10 wr
      obtain ⟨y, hy⟩ : ∃ y, UInt8.ofNat (48 + x) = y := ⟨_, rfl⟩
      rw [hy] at hcv hstep
      clear hy
      have HI := Lib.hid hi
      have HP := Lib.hid hprev
      have HN := Lib.hid hnext
      have HV := Lib.hid hv
      have HX := Lib.hid hx10
      have HC := Lib.hid hc
      have HG := Lib.hid hu
      have hlow2 : i ≤ 20 := hlow
      clear hi hprev hnext hv hx hdg hlow hc hu
      have A := add_str [y] L (by simp) (by omega)
      rw [List.singleton_append] at A
      have HL : Hid (sfd u (i + 1) = y :: L) := hstep
      generalize y :: L = L2 at *
      clear hstep
      have hd : decide ((x : Int) < 0) = false := decide_eq_false (by omega)
      have hC := HC.out
      go_wp2_with fail
      all_goals first
        | (refine ⟨⟨i + 1, by rw [HL.out], by rw [HN.out]; exact congrArg (Value.int .i64) (by omega), by rfl, HP.out, balloc hb _⟩, ?_⟩; show 2 * (intOf (.int .i64 (((v / 10 : Nat) : Int)))).natAbs + (1 - (intOf (.int .i64 ((i : Int) + 1))).toNat) < 2 * (intOf (.int .i64 ((v : Int)))).natAbs + (1 - (intOf (.int .i64 ((i : Nat) : Int))).toNat); simp only [intOf]; omega)
        | (exfalso; omega)
        | (exfalso; rename_i hz _; simp at hz; omega)
        | (exfalso; rename_i hz; simp at hz; omega)
        | (exfalso; simp at *; omega)
    · have hz : u / 10 ^ i = 0 := by omega
      have hm : 1 ≤ i := by omega
      have hL : Hid (sfd u i = Lib.decDigits u) := sfd_all hm hz (by omega)
      rw [hz]
      have hd : decide ((i : Int) < 1) = false := decide_eq_false (by omega)
      have hd2 : decide ((u : Int) < 0) = false := decide_eq_false (by omega)
      clear hz hm hc hi hv0 hlow
      go_wp2_with fail
      go_ret
      exact ⟨by rw [← hL.out]; rfl, hb⟩
set_option maxRecDepth 100000 in
set_option maxHeartbeats 2000000 in
theorem digits05_neg (u : Nat) (hu : u ≤ 1152921504606846976) (h0 : 0 < u) (w : World) : Calls Tryz.prog 28 #[.int .i64 (-(u : Int))] w fun e w' => e = .returned (.string ⟨(45 :: Lib.decDigits u).toArray⟩) ∧ Below w.heap.size w w' := by
  go_enter Tryz.func28, Tryz.ntmps28
  go_wp2_with fail
  go_loopw [3, 4, 5] (fun x y z wr => ∃ i : Nat, x = .string ⟨(sfd u i).toArray⟩ ∧ y = .int .i64 (-((u / 10 ^ i : Nat) : Int)) ∧ z = .int .i64 (i : Nat) ∧ (i ≤ 1 ∨ u / 10 ^ (i - 1) ≠ 0) ∧ Below w.heap.size w wr) (fun _ y z _ => 2 * (intOf y).natAbs + (1 - (intOf z).toNat))
  case atStart => exact ⟨0, rfl, by rw [Nat.pow_zero, Nat.div_one], rfl, .inl (by omega), Below.refl _ _⟩
  case round =>
    obtain ⟨i, rfl, rfl, rfl, hi, hb⟩ := hrel
    have hlow := loop_low hu hi (by decide)
    have hsl : (sfd u i).length ≤ 1000 := by rw [sfd_len]; omega
    have hv0 : u / 10 ^ i ≤ 1152921504606846976 := Nat.le_trans (Nat.div_le_self _ _) hu
    by_cases hc : i < 1 ∨ u / 10 ^ i ≠ 0
    · have hnext : u / 10 ^ (i + 1) = u / 10 ^ i / 10 := by rw [Nat.pow_succ, Nat.div_div_eq_div_mul]
      have hprev : i + 1 ≤ 1 ∨ u / 10 ^ (i + 1 - 1) ≠ 0 := by rw [Nat.add_sub_cancel]; omega
      have hdg : Lib.dg u i = UInt8.ofNat (48 + u / 10 ^ i % 10) := rfl
      have hstep : sfd u (i + 1) = Lib.dg u i :: sfd u i := rfl
      rw [hdg] at hstep
      generalize sfd u i = L at *
      generalize hv : u / 10 ^ i = v at *
      obtain ⟨x, hx⟩ : ∃ x, v % 10 = x := ⟨_, rfl⟩
      have hx10 : x < 10 := by rw [← hx]; exact Nat.mod_lt _ (by decide)
      obtain ⟨g1, g2⟩ := step_neg v
      rw [hx] at g1 hstep
      have hw : IntKind.u8.wrap (48 + (x : Int)) = 48 + (x : Int) := by rw [IntKind.wrap_u8]; omega
      have hcv := one_str x hx10 wr
      obtain ⟨y, hy⟩ : ∃ y, UInt8.ofNat (48 + x) = y := ⟨_, rfl⟩
      rw [hy] at hcv hstep
      clear hy
      have HI := Lib.hid hi
      have HP := Lib.hid hprev
      have HN := Lib.hid hnext
      have HV := Lib.hid hv
      have HX := Lib.hid hx10
      have HC := Lib.hid hc
      have HG := Lib.hid hu
      have hlow2 : i ≤ 20 := hlow
      clear hi hprev hnext hv hx hdg hlow hc hu h0
      obtain ⟨r, hr⟩ : ∃ r : Int, r = -(x : Int) := ⟨_, rfl⟩
      rw [← hr] at g1
      have A := add_str [y] L (by simp) (by omega)
      rw [List.singleton_append] at A
      have HL : Hid (sfd u (i + 1) = y :: L) := hstep
      generalize y :: L = L2 at *
      clear hstep
      by_cases hx0 : r < 0
      · have hd : decide (r < 0) = true := decide_eq_true hx0
        have hng : -r = (x : Int) := by omega
        have hrb : -9 ≤ r := by omega
        clear hr hx0
        have hC := HC.out
        go_wp2_with fail
        all_goals first
          | (refine ⟨⟨i + 1, by rw [HL.out], by rw [HN.out]; exact congrArg (Value.int .i64) (by omega), by rfl, HP.out, balloc hb _⟩, ?_⟩; show 2 * (intOf (.int .i64 (-((v / 10 : Nat) : Int)))).natAbs + (1 - (intOf (.int .i64 ((i : Int) + 1))).toNat) < 2 * (intOf (.int .i64 ((-(v : Int))))).natAbs + (1 - (intOf (.int .i64 ((i : Nat) : Int))).toNat); simp only [intOf]; omega)
          | (exfalso; omega)
          | (exfalso; rename_i hz _; simp at hz; omega)
          | (exfalso; rename_i hz; simp at hz; omega)
          | (exfalso; simp at *; omega)
      · obtain rfl : r = (x : Int) := by omega
        have hd : decide ((x : Int) < 0) = false := decide_eq_false (by omega)
        clear hr hx0
        have hC := HC.out
        go_wp2_with fail
        all_goals first
          | (refine ⟨⟨i + 1, by rw [HL.out], by rw [HN.out]; exact congrArg (Value.int .i64) (by omega), by rfl, HP.out, balloc hb _⟩, ?_⟩; show 2 * (intOf (.int .i64 (-((v / 10 : Nat) : Int)))).natAbs + (1 - (intOf (.int .i64 ((i : Int) + 1))).toNat) < 2 * (intOf (.int .i64 ((-(v : Int))))).natAbs + (1 - (intOf (.int .i64 ((i : Nat) : Int))).toNat); simp only [intOf]; omega)
          | (exfalso; omega)
          | (exfalso; rename_i hz _; simp at hz; omega)
          | (exfalso; rename_i hz; simp at hz; omega)
          | (exfalso; simp at *; omega)
    · have hz : u / 10 ^ i = 0 := by omega
      have hm : 1 ≤ i := by omega
      have hL : Hid (sfd u i = Lib.decDigits u) := sfd_all hm hz (by omega)
      rw [hz]
      have hd : decide ((i : Int) < 1) = false := decide_eq_false (by omega)
      have A := add_str [45] (sfd u i) (by decide) (by omega)
      rw [List.singleton_append] at A
      have hd2 : decide (-(u : Int) < 0) = true := decide_eq_true (by omega)
      obtain ⟨L2, hL2⟩ : ∃ L2, (45 :: sfd u i : List UInt8) = L2 := ⟨_, rfl⟩
      rw [hL2] at A
      have HL : Hid (45 :: Lib.decDigits u = L2) := by unfold Hid; rw [← hL.out]; exact hL2
      clear hz hm hc hi hv0 hlow hL2
      go_wp2_with fail
      go_ret
      exact ⟨by rw [HL.out]; rfl, hb⟩
set_option maxRecDepth 100000 in
set_option maxHeartbeats 2000000 in
theorem format02_pos (u : Nat) (hu : u ≤ 1152921504606846976) (w : World) : Calls Tryz.prog 29 #[.int .i64 ((u : Int))] w fun e w' => e = .returned (.string ⟨(bod u).toArray⟩) ∧ Below w.heap.size w w' := by
  go_enter Tryz.func29, Tryz.ntmps29
  go_wp2_with fail
  go_loopw [3, 4, 5] (fun x y z wr => ∃ i : Nat, x = .string ⟨(sfp u i).toArray⟩ ∧ y = .int .i64 (((u / 10 ^ i : Nat) : Int)) ∧ z = .int .i64 (i : Nat) ∧ (i ≤ 7 ∨ u / 10 ^ (i - 1) ≠ 0) ∧ Below w.heap.size w wr) (fun _ y z _ => 2 * (intOf y).natAbs + (7 - (intOf z).toNat))
  case atStart => exact ⟨0, rfl, by rw [Nat.pow_zero, Nat.div_one], rfl, .inl (by omega), Below.refl _ _⟩
  case round =>
    obtain ⟨i, rfl, rfl, rfl, hi, hb⟩ := hrel
    have hlow := loop_low hu hi (by decide)
    have hsl : (sfp u i).length ≤ 1000 := by have := sfp_len u i; omega
    have hv0 : u / 10 ^ i ≤ 1152921504606846976 := Nat.le_trans (Nat.div_le_self _ _) hu
    by_cases hc : i < 7 ∨ u / 10 ^ i ≠ 0
    · have hnext : u / 10 ^ (i + 1) = u / 10 ^ i / 10 := by rw [Nat.pow_succ, Nat.div_div_eq_div_mul]
      have hprev : i + 1 ≤ 7 ∨ u / 10 ^ (i + 1 - 1) ≠ 0 := by rw [Nat.add_sub_cancel]; omega
      have hdg : Lib.dg u i = UInt8.ofNat (48 + u / 10 ^ i % 10) := rfl
      have hstep : sfp u (i + 1) = if i = 6 then Lib.dg u i :: 46 :: sfp u i else Lib.dg u i :: sfp u i := rfl
      rw [hdg] at hstep
      generalize sfp u i = L at *
      generalize hv : u / 10 ^ i = v at *
      obtain ⟨x, hx⟩ : ∃ x, v % 10 = x := ⟨_, rfl⟩
      have hx10 : x < 10 := by rw [← hx]; exact Nat.mod_lt _ (by decide)
      obtain ⟨g1, g2⟩ := step_nat v
      rw [hx] at g1 hstep
      have hw : IntKind.u8.wrap (48 + (x : Int)) = 48 + (x : Int) := by rw [IntKind.wrap_u8]; omega
      have hcv := one_str x hx10 wr
      obtain ⟨y, hy⟩ : ∃ y, UInt8.ofNat (48 + x) = y := ⟨_, rfl⟩
      rw [hy] at hcv hstep
      clear hy
      have HI := Lib.hid hi
      have HP := Lib.hid hprev
      have HN := Lib.hid hnext
      have HV := Lib.hid hv
      have HX := Lib.hid hx10
      have HC := Lib.hid hc
      have HG := Lib.hid hu
      have hlow2 : i ≤ 20 := hlow
      clear hi hprev hnext hv hx hdg hlow hc hu
      by_cases h6 : i = 6
      · subst h6
        rw [if_pos rfl] at hstep
        have A0 := add_str [46] L (by decide) (by omega)
        have A := add_str [y] (46 :: L) (by simp) (by rw [List.length_cons]; omega)
        rw [List.singleton_append] at A0 A
        have HL : Hid (sfp u (6 + 1) = y :: 46 :: L) := hstep
        generalize y :: 46 :: L = L2 at *
        generalize (46 :: L : List UInt8) = L3 at *
        clear hstep
        have hd : decide ((x : Int) < 0) = false := decide_eq_false (by omega)
        have hC := HC.out
        go_wp2_with fail
        all_goals first
          | (refine ⟨⟨7, by rw [HL.out], by rw [HN.out]; exact congrArg (Value.int .i64) (by omega), by rfl, HP.out, balloc hb _⟩, ?_⟩; show 2 * (intOf (.int .i64 (((v / 10 : Nat) : Int)))).natAbs + (7 - (intOf (.int .i64 (7 : Int))).toNat) < 2 * (intOf (.int .i64 ((v : Int)))).natAbs + (7 - (intOf (.int .i64 ((6 : Nat) : Int))).toNat); simp only [intOf]; omega)
          | (exfalso; omega)
          | (exfalso; rename_i hz _; simp at hz; omega)
          | (exfalso; rename_i hz; simp at hz; omega)
          | (exfalso; simp at *; omega)
      · rw [if_neg h6] at hstep
        have A := add_str [y] L (by simp) (by omega)
        rw [List.singleton_append] at A
        have HL : Hid (sfp u (i + 1) = y :: L) := hstep
        generalize y :: L = L2 at *
        have h6' : ((i : Int) == 6) = false := by rw [beq_eq_false_iff_ne]; omega
        clear hstep
        have hd : decide ((x : Int) < 0) = false := decide_eq_false (by omega)
        have hC := HC.out
        go_wp2_with fail
        all_goals first
          | (refine ⟨⟨i + 1, by rw [HL.out], by rw [HN.out]; exact congrArg (Value.int .i64) (by omega), by rfl, HP.out, balloc hb _⟩, ?_⟩; show 2 * (intOf (.int .i64 (((v / 10 : Nat) : Int)))).natAbs + (7 - (intOf (.int .i64 ((i : Int) + 1))).toNat) < 2 * (intOf (.int .i64 ((v : Int)))).natAbs + (7 - (intOf (.int .i64 ((i : Nat) : Int))).toNat); simp only [intOf]; omega)
          | (exfalso; omega)
          | (exfalso; rename_i hz _; simp at hz; omega)
          | (exfalso; rename_i hz; simp at hz; omega)
          | (exfalso; simp at *; omega)
    · have hz : u / 10 ^ i = 0 := by omega
      have hm : 7 ≤ i := by omega
      have hL : Hid (sfp u i = bod u) := sfp_all hm hz (by omega)
      rw [hz]
      have hd : decide ((i : Int) < 7) = false := decide_eq_false (by omega)
      have hd2 : decide ((u : Int) < 0) = false := decide_eq_false (by omega)
      clear hz hm hc hi hv0 hlow
      go_wp2_with fail
      go_ret
      exact ⟨by rw [← hL.out]; rfl, hb⟩
set_option maxRecDepth 100000 in
set_option maxHeartbeats 2000000 in
theorem format02_neg (u : Nat) (hu : u ≤ 1152921504606846976) (h0 : 0 < u) (w : World) : Calls Tryz.prog 29 #[.int .i64 (-(u : Int))] w fun e w' => e = .returned (.string ⟨(45 :: bod u).toArray⟩) ∧ Below w.heap.size w w' := by
  go_enter Tryz.func29, Tryz.ntmps29
  go_wp2_with fail
  go_loopw [3, 4, 5] (fun x y z wr => ∃ i : Nat, x = .string ⟨(sfp u i).toArray⟩ ∧ y = .int .i64 (-((u / 10 ^ i : Nat) : Int)) ∧ z = .int .i64 (i : Nat) ∧ (i ≤ 7 ∨ u / 10 ^ (i - 1) ≠ 0) ∧ Below w.heap.size w wr) (fun _ y z _ => 2 * (intOf y).natAbs + (7 - (intOf z).toNat))
  case atStart => exact ⟨0, rfl, by rw [Nat.pow_zero, Nat.div_one], rfl, .inl (by omega), Below.refl _ _⟩
  case round =>
    obtain ⟨i, rfl, rfl, rfl, hi, hb⟩ := hrel
    have hlow := loop_low hu hi (by decide)
    have hsl : (sfp u i).length ≤ 1000 := by have := sfp_len u i; omega
    have hv0 : u / 10 ^ i ≤ 1152921504606846976 := Nat.le_trans (Nat.div_le_self _ _) hu
    by_cases hc : i < 7 ∨ u / 10 ^ i ≠ 0
    · have hnext : u / 10 ^ (i + 1) = u / 10 ^ i / 10 := by rw [Nat.pow_succ, Nat.div_div_eq_div_mul]
      have hprev : i + 1 ≤ 7 ∨ u / 10 ^ (i + 1 - 1) ≠ 0 := by rw [Nat.add_sub_cancel]; omega
      have hdg : Lib.dg u i = UInt8.ofNat (48 + u / 10 ^ i % 10) := rfl
      have hstep : sfp u (i + 1) = if i = 6 then Lib.dg u i :: 46 :: sfp u i else Lib.dg u i :: sfp u i := rfl
      rw [hdg] at hstep
      generalize sfp u i = L at *
      generalize hv : u / 10 ^ i = v at *
      obtain ⟨x, hx⟩ : ∃ x, v % 10 = x := ⟨_, rfl⟩
      have hx10 : x < 10 := by rw [← hx]; exact Nat.mod_lt _ (by decide)
      obtain ⟨g1, g2⟩ := step_neg v
      rw [hx] at g1 hstep
      have hw : IntKind.u8.wrap (48 + (x : Int)) = 48 + (x : Int) := by rw [IntKind.wrap_u8]; omega
      have hcv := one_str x hx10 wr
      obtain ⟨y, hy⟩ : ∃ y, UInt8.ofNat (48 + x) = y := ⟨_, rfl⟩
      rw [hy] at hcv hstep
      clear hy
      have HI := Lib.hid hi
      have HP := Lib.hid hprev
      have HN := Lib.hid hnext
      have HV := Lib.hid hv
      have HX := Lib.hid hx10
      have HC := Lib.hid hc
      have HG := Lib.hid hu
      have hlow2 : i ≤ 20 := hlow
      clear hi hprev hnext hv hx hdg hlow hc hu h0
      obtain ⟨r, hr⟩ : ∃ r : Int, r = -(x : Int) := ⟨_, rfl⟩
      rw [← hr] at g1
      by_cases h6 : i = 6
      · subst h6
        rw [if_pos rfl] at hstep
        have A0 := add_str [46] L (by decide) (by omega)
        have A := add_str [y] (46 :: L) (by simp) (by rw [List.length_cons]; omega)
        rw [List.singleton_append] at A0 A
        have HL : Hid (sfp u (6 + 1) = y :: 46 :: L) := hstep
        generalize y :: 46 :: L = L2 at *
        generalize (46 :: L : List UInt8) = L3 at *
        clear hstep
        by_cases hx0 : r < 0
        · have hd : decide (r < 0) = true := decide_eq_true hx0
          have hng : -r = (x : Int) := by omega
          have hrb : -9 ≤ r := by omega
          clear hr hx0
          have hC := HC.out
          go_wp2_with fail
          all_goals first
            | (refine ⟨⟨7, by rw [HL.out], by rw [HN.out]; exact congrArg (Value.int .i64) (by omega), by rfl, HP.out, balloc hb _⟩, ?_⟩; show 2 * (intOf (.int .i64 (-((v / 10 : Nat) : Int)))).natAbs + (7 - (intOf (.int .i64 (7 : Int))).toNat) < 2 * (intOf (.int .i64 ((-(v : Int))))).natAbs + (7 - (intOf (.int .i64 ((6 : Nat) : Int))).toNat); simp only [intOf]; omega)
            | (exfalso; omega)
            | (exfalso; rename_i hz _; simp at hz; omega)
            | (exfalso; rename_i hz; simp at hz; omega)
            | (exfalso; simp at *; omega)
        · obtain rfl : r = (x : Int) := by omega
          have hd : decide ((x : Int) < 0) = false := decide_eq_false (by omega)
          clear hr hx0
          have hC := HC.out
          go_wp2_with fail
          all_goals first
            | (refine ⟨⟨7, by rw [HL.out], by rw [HN.out]; exact congrArg (Value.int .i64) (by omega), by rfl, HP.out, balloc hb _⟩, ?_⟩; show 2 * (intOf (.int .i64 (-((v / 10 : Nat) : Int)))).natAbs + (7 - (intOf (.int .i64 (7 : Int))).toNat) < 2 * (intOf (.int .i64 ((-(v : Int))))).natAbs + (7 - (intOf (.int .i64 ((6 : Nat) : Int))).toNat); simp only [intOf]; omega)
            | (exfalso; omega)
            | (exfalso; rename_i hz _; simp at hz; omega)
            | (exfalso; rename_i hz; simp at hz; omega)
            | (exfalso; simp at *; omega)
      · rw [if_neg h6] at hstep
        have A := add_str [y] L (by simp) (by omega)
        rw [List.singleton_append] at A
        have HL : Hid (sfp u (i + 1) = y :: L) := hstep
        generalize y :: L = L2 at *
        have h6' : ((i : Int) == 6) = false := by rw [beq_eq_false_iff_ne]; omega
        clear hstep
        by_cases hx0 : r < 0
        · have hd : decide (r < 0) = true := decide_eq_true hx0
          have hng : -r = (x : Int) := by omega
          have hrb : -9 ≤ r := by omega
          clear hr hx0
          have hC := HC.out
          go_wp2_with fail
          all_goals first
            | (refine ⟨⟨i + 1, by rw [HL.out], by rw [HN.out]; exact congrArg (Value.int .i64) (by omega), by rfl, HP.out, balloc hb _⟩, ?_⟩; show 2 * (intOf (.int .i64 (-((v / 10 : Nat) : Int)))).natAbs + (7 - (intOf (.int .i64 ((i : Int) + 1))).toNat) < 2 * (intOf (.int .i64 ((-(v : Int))))).natAbs + (7 - (intOf (.int .i64 ((i : Nat) : Int))).toNat); simp only [intOf]; omega)
            | (exfalso; omega)
            | (exfalso; rename_i hz _; simp at hz; omega)
            | (exfalso; rename_i hz; simp at hz; omega)
            | (exfalso; simp at *; omega)
        · obtain rfl : r = (x : Int) := by omega
          have hd : decide ((x : Int) < 0) = false := decide_eq_false (by omega)
          clear hr hx0
          have hC := HC.out
          go_wp2_with fail
          all_goals first
            | (refine ⟨⟨i + 1, by rw [HL.out], by rw [HN.out]; exact congrArg (Value.int .i64) (by omega), by rfl, HP.out, balloc hb _⟩, ?_⟩; show 2 * (intOf (.int .i64 (-((v / 10 : Nat) : Int)))).natAbs + (7 - (intOf (.int .i64 ((i : Int) + 1))).toNat) < 2 * (intOf (.int .i64 ((-(v : Int))))).natAbs + (7 - (intOf (.int .i64 ((i : Nat) : Int))).toNat); simp only [intOf]; omega)
            | (exfalso; omega)
            | (exfalso; rename_i hz _; simp at hz; omega)
            | (exfalso; rename_i hz; simp at hz; omega)
            | (exfalso; simp at *; omega)
    · have hz : u / 10 ^ i = 0 := by omega
      have hm : 7 ≤ i := by omega
      have hL : Hid (sfp u i = bod u) := sfp_all hm hz (by omega)
      rw [hz]
      have hd : decide ((i : Int) < 7) = false := decide_eq_false (by omega)
      have A := add_str [45] (sfp u i) (by decide) (by omega)
      rw [List.singleton_append] at A
      have hd2 : decide (-(u : Int) < 0) = true := decide_eq_true (by omega)
      obtain ⟨L2, hL2⟩ : ∃ L2, (45 :: sfp u i : List UInt8) = L2 := ⟨_, rfl⟩
      rw [hL2] at A
      have HL : Hid (45 :: bod u = L2) := by unfold Hid; rw [← hL.out]; exact hL2
      clear hz hm hc hi hv0 hlow hL2
      go_wp2_with fail
      go_ret
      exact ⟨by rw [HL.out]; rfl, hb⟩
end Go.Proofs.YtnkdclodmeaihaaGreatDoor

/-
  The reference's quotient: the digits of the second factor, one by one.
-/
import Derived.Test.YtgfigcjbfigmiaaDoorRef
import Derived.Laws.Bits64b
namespace Go.Proofs.YtgfigcjbfigmiaaDoor
open Go.RowKit Go.Shelf

theorem and_one (a : Int) (h0 : 0 ≤ a) (h1 : a ≤ 1152921504606846976) : bits .and .i64 a 1 = a % 2 := by
  obtain ⟨n, rfl⟩ := Int.eq_ofNat_of_zero_le h0
  have h1 : (BitVec.ofInt 64 (n : Int)).toNat = n := by
    rw [BitVec.ofInt_natCast, BitVec.toNat_ofNat]; exact Nat.mod_eq_of_lt (by omega)
  have h2 : (BitVec.ofInt 64 (1 : Int)).toNat = 1 := by decide
  show IntKind.i64.wrap ((BitVec.ofInt 64 (n : Int) &&& BitVec.ofInt 64 (1 : Int)).toNat : Int) = _
  have e : n &&& 1 = n % 2 := Nat.and_two_pow_sub_one_eq_mod n 1
  rw [BitVec.toNat_and, h1, h2, e, IntKind.wrap_i64]
  omega

/-- What the loop knows at the place j: the quotient and the rest for the digits above. -/
def At (a b d : Int) (j : Nat) (q r : Int) : Prop := q * d + r = a * (b / 2 ^ j)
theorem at_start {a b d : Int} (b0 : 0 ≤ b) (b1 : b ≤ 1152921504606846976) : At a b d 61 0 0 := by
  have : b / 2 ^ 61 = 0 := Int.ediv_eq_zero_of_lt b0 (by have : (2 : Int) ^ 61 = 2305843009213693952 := by decide
                                                         omega)
  unfold At
  rw [this]; simp
theorem at_step {a b d q r t u v : Int} {i : Nat} (h : At a b d (i + 1) q r) (ht : b / 2 ^ i % 2 = t) (huv : u * d + v = 2 * r + t * a) : At a b d i (2 * q + u) v := by
  unfold At at *
  have e : b / 2 ^ (i + 1) = b / 2 ^ i / 2 := by rw [Int.pow_succ, ← Int.ediv_ediv_of_nonneg (Int.pow_nonneg (by decide))]
  have e2 : b / 2 ^ i = 2 * (b / 2 ^ (i + 1)) + t := by rw [e]; omega
  rw [e2, Int.add_mul, Int.mul_add, Int.mul_left_comm a 2, ← h, Int.mul_comm a t, Int.mul_assoc 2 q d]
  generalize q * d = x at *
  generalize u * d = y at *
  generalize t * a = z at *
  omega
theorem at_end {a b d q r : Int} (h : At a b d 0 q r) : q * d + r = a * b := by
  unfold At at h
  rw [Int.pow_zero, Int.ediv_one] at h
  exact h
theorem at_great {a b d q r : Int} {i : Nat} (h : At a b d i q r) (a0 : 0 ≤ a) (b0 : 0 ≤ b) (d0 : 0 < d) (r0 : 0 ≤ r) : q ≤ a * b / d := by
  unfold At at h
  rw [Int.le_ediv_iff_mul_le d0]
  have h1 : b / 2 ^ i ≤ b := Int.ediv_le_self _ b0
  have h2 : a * (b / 2 ^ i) ≤ a * b := Int.mul_le_mul_of_nonneg_left h1 a0
  generalize q * d = x at *
  omega
theorem quo_pos {a b d : Int} (a0 : 0 ≤ a) (b0 : 0 ≤ b) (d0 : 0 < d) : quo (a * b) d = a * b / d + ru (a * b / d) (a * b % d) d := by
  have h1 : ab (a * b) = a * b := by have := Int.mul_nonneg a0 b0; unfold ab; rw [if_neg (by omega)]
  have h2 : ab d = d := by unfold ab; rw [if_neg (by omega)]
  unfold quo
  rw [h1, h2]
theorem quo_at {a b d q r : Int} (h : q * d + r = a * b) (a0 : 0 ≤ a) (b0 : 0 ≤ b) (d0 : 0 < d) (r0 : 0 ≤ r) (r1 : r < d) : quo (a * b) d = q + ru q r d := by
  rw [quo_pos a0 b0 d0, ← h, Int.add_comm (q * d) r, Int.add_mul_ediv_right _ _ (by omega), Int.ediv_eq_zero_of_lt r0 r1, Int.add_mul_emod_self_right, Int.emod_eq_of_lt r0 r1, Int.zero_add]
theorem quo_great {a b d q r : Int} {i : Nat} (h : At a b d i q r) (a0 : 0 ≤ a) (b0 : 0 ≤ b) (d0 : 0 < d) (r0 : 0 ≤ r) (hq : 1152921504606846976 < q) : rg (quo (a * b) d) = false := by
  have h1 := at_great h a0 b0 d0 r0
  rw [quo_pos a0 b0 d0, rg_no]
  have := ru_range (a * b / d) (a * b % d) d
  omega

set_option maxHeartbeats 2000000 in
theorem quotient_any (a b d : Int) (w : World) (a0 : 0 ≤ a) (a1 : a ≤ 1152921504606846976) (b0' : 0 ≤ b) (b1 : b ≤ 1152921504606846976) (d0 : 1 ≤ d) (d1 : d ≤ 1152921504606846976) :
    Calls Tryd.prog 48 #[.int .i64 a, .int .i64 b, .int .i64 d] w fun e w' => e = .returned (.tuple #[.int .i64 (kx (quo (a * b) d)), .bool (rg (quo (a * b) d))]) ∧ w = w' := by
  obtain ⟨Z, hZ⟩ : ∃ Z, quo (a * b) d = Z := ⟨_, rfl⟩
  have HZ := Lib.hid hZ
  rw [hZ]
  clear hZ
  go_enter Tryd.func48, Tryd.ntmps48
  go_wp2
  go_loop [8, 9, 10] (fun vq vr vi => ∃ (j : Nat) (q r : Int), j ≤ 61 ∧ 0 ≤ q ∧ q ≤ 1152921504606846976 ∧ 0 ≤ r ∧ r < d ∧ vq = .int .i64 q ∧ vr = .int .i64 r ∧ vi = .int .i64 ((j : Int) - 1) ∧ Hid (At a b d j q r)) (fun _ _ vi => (intOf vi + 1).toNat)
  case atStart => exact ⟨61, 0, 0, by omega, by omega, by omega, by omega, by omega, rfl, rfl, rfl, at_start b0' b1⟩
  case round =>
    obtain ⟨j, q, r, hj, q0, q1, r0, r1, rfl, rfl, rfl, hat⟩ := hrel
    by_cases hl : j = 0
    · subst hl
      have hq := quo_at (at_end hat.out) a0 b0' (by omega) r0 r1
      have HQ : Hid (Z = q + ru q r d) := by unfold Hid; rw [← HZ.out, hq]
      clear hq hat HZ
      have h4 : (Hid (ru q r d = 1) ∧ decide (d < 2 * r) = true) ∨ (Hid (ru q r d = 1) ∧ decide (d < 2 * r) = false ∧ ((2 * r : Int) == d) = true ∧ (q % 2 == 1) = true) ∨ (Hid (ru q r d = 0) ∧ decide (d < 2 * r) = false ∧ ((2 * r : Int) == d) = true ∧ (q % 2 == 1) = false) ∨ (Hid (ru q r d = 0) ∧ decide (d < 2 * r) = false ∧ ((2 * r : Int) == d) = false) := by
        unfold Hid ru
        simp only [beq_iff_eq, beq_eq_false_iff_ne, decide_eq_true_eq, decide_eq_false_iff_not]
        split <;> omega
      rcases h4 with ⟨H, h⟩ | ⟨H, h, h', h''⟩ | ⟨H, h, h', h''⟩ | ⟨H, h, h'⟩
      · have E : Hid (q + 1 = Z) := by unfold Hid; rw [HQ.out, H.out]
        go_wp2_with (go_at_call 35; refine (refKept_any (q + 1) _).mono ?_; rw [E.out]; rintro e w1 ⟨rfl, rfl⟩)
        go_ret2
        exact ⟨rfl, rfl⟩
      · have E : Hid (q + 1 = Z) := by unfold Hid; rw [HQ.out, H.out]
        go_wp2_with (go_at_call 35; refine (refKept_any (q + 1) _).mono ?_; rw [E.out]; rintro e w1 ⟨rfl, rfl⟩)
        go_ret2
        exact ⟨rfl, rfl⟩
      · have E : Hid (q = Z) := by unfold Hid; rw [HQ.out, H.out, Int.add_zero]
        go_wp2_with (go_at_call 35; refine (refKept_any q _).mono ?_; rw [E.out]; rintro e w1 ⟨rfl, rfl⟩)
        go_ret2
        exact ⟨rfl, rfl⟩
      · have E : Hid (q = Z) := by unfold Hid; rw [HQ.out, H.out, Int.add_zero]
        go_wp2_with (go_at_call 35; refine (refKept_any q _).mono ?_; rw [E.out]; rintro e w1 ⟨rfl, rfl⟩)
        go_ret2
        exact ⟨rfl, rfl⟩
    · obtain ⟨k, rfl⟩ : ∃ k, j = k + 1 := ⟨j - 1, by omega⟩
      obtain ⟨i, hi⟩ : ∃ i : Int, ((k + 1 : Nat) : Int) - 1 = i := ⟨_, rfl⟩
      have hk : i.toNat = k := by omega
      have i0 : 0 ≤ i := by omega
      have i1 : i ≤ 60 := by omega
      obtain ⟨B, hB⟩ : ∃ B, b / 2 ^ i.toNat = B := ⟨_, rfl⟩
      have B0 : 0 ≤ B := by rw [← hB]; exact Int.ediv_nonneg b0' (Int.pow_nonneg (by decide))
      have B1 : B ≤ 1152921504606846976 := by rw [← hB]; have := Int.ediv_le_self (2 ^ i.toNat) b0'; omega
      have hbit := and_one B B0 B1
      have hB2 : b / 2 ^ k = B := by rw [← hk]; exact hB
      clear hk
      rw [hi]
      have HI := Lib.hid hi
      clear hi
      have hm : B % 2 = 0 ∨ B % 2 = 1 := by omega
      rcases hm with hm | hm
      · rw [hm] at hbit
        obtain ⟨u, hu⟩ : ∃ u, 2 * r / d = u := ⟨_, rfl⟩
        obtain ⟨v, hv⟩ : ∃ v, 2 * r % d = v := ⟨_, rfl⟩
        have huv : u * d + v = 2 * r + 0 * a := by rw [← hu, ← hv, Int.mul_comm, Int.mul_ediv_add_emod]; omega
        have u0 : 0 ≤ u := by rw [← hu]; exact Int.ediv_nonneg (by omega) (by omega)
        have u1 : u ≤ 2 * r := by rw [← hu]; exact Int.ediv_le_self _ (by omega)
        have v0 : 0 ≤ v := by rw [← hv]; exact Int.emod_nonneg _ (by omega)
        have v1 : v < d := by rw [← hv]; exact Int.emod_lt_of_pos _ (by omega)
        have S := Lib.hid (at_step hat.out (by rw [hB2]; exact hm) huv)
        clear huv hat hm hB2
        by_cases g : 1152921504606846976 < 2 * q + u
        · have E1 := quo_great S.out a0 b0' (by omega) v0 g
          rw [HZ.out] at E1
          have E2 := Lib.hid (kx_no E1)
          have E3 := Lib.hid E1
          clear E1
          have g' : decide (1152921504606846976 < 2 * q + u) = true := by simpa using g
          go_wp2
          go_ret2
          exact ⟨by rw [E2.out, E3.out]; rfl, rfl⟩
        · have g' : decide (1152921504606846976 < 2 * q + u) = false := by simpa using g
          go_wp2
          exact ⟨⟨k, 2 * q + u, v, by omega, by omega, by omega, v0, v1, rfl, by rw [hv], by congr 1; have := HI.out; omega, S⟩, by simp only [intOf]; omega⟩
      · rw [hm] at hbit
        obtain ⟨u, hu⟩ : ∃ u, (2 * r + a) / d = u := ⟨_, rfl⟩
        obtain ⟨v, hv⟩ : ∃ v, (2 * r + a) % d = v := ⟨_, rfl⟩
        have huv : u * d + v = 2 * r + 1 * a := by rw [← hu, ← hv, Int.mul_comm, Int.mul_ediv_add_emod]; omega
        have u0 : 0 ≤ u := by rw [← hu]; exact Int.ediv_nonneg (by omega) (by omega)
        have u1 : u ≤ 2 * r + a := by rw [← hu]; exact Int.ediv_le_self _ (by omega)
        have v0 : 0 ≤ v := by rw [← hv]; exact Int.emod_nonneg _ (by omega)
        have v1 : v < d := by rw [← hv]; exact Int.emod_lt_of_pos _ (by omega)
        have S := Lib.hid (at_step hat.out (by rw [hB2]; exact hm) huv)
        clear huv hat hm hB2
        by_cases g : 1152921504606846976 < 2 * q + u
        · have E1 := quo_great S.out a0 b0' (by omega) v0 g
          rw [HZ.out] at E1
          have E2 := Lib.hid (kx_no E1)
          have E3 := Lib.hid E1
          clear E1
          have g' : decide (1152921504606846976 < 2 * q + u) = true := by simpa using g
          go_wp2
          go_ret2
          exact ⟨by rw [E2.out, E3.out]; rfl, rfl⟩
        · have g' : decide (1152921504606846976 < 2 * q + u) = false := by simpa using g
          go_wp2
          exact ⟨⟨k, 2 * q + u, v, by omega, by omega, by omega, v0, v1, rfl, by rw [hv], by congr 1; have := HI.out; omega, S⟩, by simp only [intOf]; omega⟩
end Go.Proofs.YtgfigcjbfigmiaaDoor

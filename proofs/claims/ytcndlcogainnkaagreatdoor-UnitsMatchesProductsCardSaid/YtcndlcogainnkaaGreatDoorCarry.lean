/-
  The specification's Make and carry.
-/
import Derived.Test.YtcndlcogainnkaaGreatDoorDigits
namespace Go.Proofs.YtcndlcogainnkaaGreatDoor.dec
open Go.RowKit

/-- The value of the digits o + 3, o + 2, .. so far. -/
def ml (f : Nat → Int) (o : Nat) : Nat → Int
  | 0 => 0
  | k + 1 => ml f o k * 65536 + f (o + 3 - k)
theorem ml_lo (f : Nat → Int) : ml f 0 4 = lo4 f := by simp [ml, lo4]
theorem ml_hi (f : Nat → Int) : ml f 4 4 = hi4 f := by simp [ml, hi4]

theorem ml_range {f : Nat → Int} {o : Nat} (ho : o ≤ 4) (h0 : ∀ j, j < 8 → 0 ≤ f j) (h1 : ∀ j, j < 8 → f j ≤ 65535) (k : Nat) (hk : k ≤ 3) : 0 ≤ ml f o k ∧ ml f o k ≤ 281474976710655 := by
  have a3 := h0 (o + 3) (by omega); have b3 := h1 (o + 3) (by omega)
  have a2 := h0 (o + 2) (by omega); have b2 := h1 (o + 2) (by omega)
  have a1 := h0 (o + 1) (by omega); have b1 := h1 (o + 1) (by omega)
  have h : k = 0 ∨ k = 1 ∨ k = 2 ∨ k = 3 := by omega
  rcases h with rfl | rfl | rfl | rfl <;> simp [ml] <;> omega
theorem ml_four {f : Nat → Int} {o : Nat} (ho : o ≤ 4) (h0 : ∀ j, j < 8 → 0 ≤ f j) (h1 : ∀ j, j < 8 → f j ≤ 65535) : 0 ≤ ml f o 4 ∧ ml f o 4 ≤ 18446744073709551615 := by
  have h := ml_range ho h0 h1 3 (by omega)
  have a3 := h0 o (by omega); have b3 := h1 o (by omega)
  have e : ml f o 4 = ml f o 3 * 65536 + f o := rfl
  rw [e]; omega
set_option maxRecDepth 100000 in
set_option maxHeartbeats 2000000 in
theorem make_any {g c : Nat} {f : Nat → Int} {a : Int} (w : World) (hR : Row w g f) (hD : Dg f a) :
    Calls Tryz.prog 73 #[.slice (some ⟨g, 0, none⟩) 8 c] w fun e w' => e = .returned (W a) ∧ Below w.heap.size w w' := by
  have eL := Lib.hid (make_lo hD)
  have eH := Lib.hid (make_hi hD)
  obtain ⟨l0, l1, l2, l3, l4, l5, l6, l7⟩ := eight hD.lo
  obtain ⟨u0, u1, u2, u3, u4, u5, u6, u7⟩ := eight hD.hi
  obtain ⟨c0, c1, c2, c3, c4, c5, c6, c7⟩ := eight (fun j hj => (hR.past (.cells #[.int .i64 0, .int .u64 0] 45)).cell j hj)
  have hML := Lib.hid (ml_lo f)
  have hMH := Lib.hid (ml_hi f)
  go_enter Tryz.func73, Tryz.ntmps73
  go_wp2_with fail
  go_loop [3, 4, 5] (fun l h i => ∃ k : Nat, k ≤ 4 ∧ i = .int .i64 (3 - k) ∧ l = .int .u64 (ml f 0 k) ∧ h = .int .u64 (ml f 4 k)) (fun _ _ i => (intOf i + 1).toNat)
  case atStart => exact ⟨0, by omega, rfl, rfl, rfl⟩
  case round =>
    obtain ⟨k, hk, rfl, rfl, rfl⟩ := hrel
    have h5 : k = 0 ∨ k = 1 ∨ k = 2 ∨ k = 3 ∨ k = 4 := by omega
    clear hk
    rcases h5 with rfl | rfl | rfl | rfl | rfl
    · obtain ⟨p0, p1⟩ := ml_range (f := f) (o := 0) (by omega) hD.lo hD.hi 0 (by omega)
      obtain ⟨q0, q1⟩ := ml_range (f := f) (o := 4) (by omega) hD.lo hD.hi 0 (by omega)
      go_wp2_with fail
      exact ⟨⟨1, by omega, rfl, rfl, rfl⟩, by simp [intOf]⟩
    · obtain ⟨p0, p1⟩ := ml_range (f := f) (o := 0) (by omega) hD.lo hD.hi 1 (by omega)
      obtain ⟨q0, q1⟩ := ml_range (f := f) (o := 4) (by omega) hD.lo hD.hi 1 (by omega)
      go_wp2_with fail
      exact ⟨⟨2, by omega, rfl, rfl, rfl⟩, by simp [intOf]⟩
    · obtain ⟨p0, p1⟩ := ml_range (f := f) (o := 0) (by omega) hD.lo hD.hi 2 (by omega)
      obtain ⟨q0, q1⟩ := ml_range (f := f) (o := 4) (by omega) hD.lo hD.hi 2 (by omega)
      go_wp2_with fail
      exact ⟨⟨3, by omega, rfl, rfl, rfl⟩, by simp [intOf]⟩
    · obtain ⟨p0, p1⟩ := ml_range (f := f) (o := 0) (by omega) hD.lo hD.hi 3 (by omega)
      obtain ⟨q0, q1⟩ := ml_range (f := f) (o := 4) (by omega) hD.lo hD.hi 3 (by omega)
      go_wp2_with fail
      exact ⟨⟨4, by omega, rfl, rfl, rfl⟩, by simp [intOf]⟩
    · obtain ⟨p0, p1⟩ := ml_four (f := f) (o := 0) (by omega) hD.lo hD.hi
      obtain ⟨q0, q1⟩ := ml_four (f := f) (o := 4) (by omega) hD.lo hD.hi
      go_wp2_with fail
      rw [hML.out, hMH.out, eL.out, eH.out]
      simp [bodyPost, results, Tryz.results73, go_sem, W]
      exact balloc (b0 w) _

/-- Go's quotient and remainder of a number below 0, mended, are the floor's. -/
theorem mend {s : Int} (h : s < 0) : (-65536 < s.tmod 65536 ∧ s.tmod 65536 < 0 ∧ s.tdiv 65536 - 1 = s / 65536 ∧ s.tmod 65536 + 65536 = s % 65536) ∨ (s.tmod 65536 = 0 ∧ s.tdiv 65536 = s / 65536 ∧ s.tmod 65536 = s % 65536) := by
  have h1 : (-s).tdiv 65536 = -(s.tdiv 65536) := Int.neg_tdiv _ _
  have h2 : (-s).tmod 65536 = -(s.tmod 65536) := Int.neg_tmod _ _
  rw [Int.tdiv_eq_ediv_of_nonneg (by omega)] at h1
  rw [Int.tmod_eq_emod_of_nonneg (by omega)] at h2
  omega
set_option maxRecDepth 100000 in
set_option maxHeartbeats 4000000 in
theorem carry_any {g c : Nat} {f : Nat → Int} (w : World) (hR : Row w g f) (f0 : ∀ j, j < 8 → -1099511627776 ≤ f j) (f1 : ∀ j, j < 8 → f j ≤ 1099511627776) :
    Calls Tryz.prog 74 #[.slice (some ⟨g, 0, none⟩) 8 c] w fun e w' => ∃ g' c', e = .returned (.slice (some ⟨g', 0, none⟩) 8 c') ∧ Row w' g' (fun j => (cl f 8).getD j 0) ∧ Below w.heap.size w w' := by
  obtain ⟨i0, hinf, hz0, hz1, hz2⟩ := info_parts info3
  have F0 := Lib.hid f0
  have F1 := Lib.hid f1
  clear f0 f1
  go_enter Tryz.func74, Tryz.ntmps74
  go_wp2_with fail
  go_loopw [3, 4, 5, 6] (fun v m i _n wr => ∃ k : Nat, k ≤ 8 ∧ i = .int .i64 k ∧ m = .int .i64 (cm f k) ∧ wr.ownsRow w.heap.size 3 1 v k ((cl f k).map (Value.int .i64)) ∧ Below w.heap.size w wr) (fun _ _ i _ _ => 8 - (intOf i).toNat)
  case atStart => exact ⟨0, by omega, rfl, rfl, World.ownsRow_nil _ _ _ _, b0 w⟩
  case round =>
    obtain ⟨k, hk, rfl, rfl, hown, hnx⟩ := hrel
    have hz := hnx.size
    by_cases hlt : k < 8
    · have hcell := (hR.keeps hnx).cell k hlt
      have a0 := F0.out k hlt
      have a1 := F1.out k hlt
      obtain ⟨b0, b1⟩ := cm_range F0.out F1.out k (by omega)
      obtain ⟨n0, n1⟩ := cm_range F0.out F1.out (k + 1) (by omega)
      have eC : Hid (cm f (k + 1) = (f k + cm f k) / 65536) := rfl
      have eL : Hid (cl f (k + 1) = cl f k ++ [(f k + cm f k) % 65536]) := rfl
      rw [eC.out] at n0 n1
      have push : ∀ x : Int, x = (f k + cm f k) % 65536 → ∀ (v' : Value) (w1 : World), w1.ownsRow w.heap.size 3 1 v' (k + 1) ((cl f k).map (Value.int .i64) ++ [.int .i64 x]) → w1.ownsRow w.heap.size 3 1 v' (k + 1) ((cl f (k + 1)).map (Value.int .i64)) := by
        intro x hx v' w1 h
        rw [eL.out]; simpa [hx] using h
      have PUSH := Lib.hid push
      clear push
      generalize hS : f k + cm f k = S at *
      by_cases hs : 0 ≤ S
      · go_wp2_with (at_builtin; refine wpList_append_own _ rfl _ _ 90 rfl w.heap.size 3 i0 (.int .i64 0) 1 8 Tryz.underlying90 hinf hz0 hz1 hz2 rfl (by decide) _ _ _ rfl (hown.alloc _) ⟨wr.heap.size, 0, none⟩ 1 1 [.int .i64 (S % 65536)] rfl rfl ?c1 ?c2 ?c3 ?c4 ?c5 ?_)
        case c1 =>
          intro j u hj
          match j, hj with
          | 0, hj => simp at hj; subst hj; simp [Addr.add]
        case c2 => intro u hu; simp at hu; subst hu; rfl
        case c3 => unfold maxLen; omega
        case c4 => omega
        case c5 => simp; omega
        intro v' w1 hown' hgrow _
        have R1 := PUSH.out _ rfl v' w1 hown'
        have R2 := push_below hnx hz hown hgrow
        clear hown' hgrow hown hnx hcell
        go_wp2
        go_roundw
        case rel => exact ⟨k + 1, by omega, by go_num, by rw [eC.out], R1, R2⟩
        case measure => simp [intOf]; omega
      · rcases mend (show S < 0 from by omega) with ⟨g2, m0, m1, m2⟩ | ⟨m0, m1, m2⟩
        · have g0 : -1099511627776 ≤ S.tdiv 65536 - 1 := by omega
          have g1 : S.tdiv 65536 - 1 ≤ 1099511627776 := by omega
          have M1 := Lib.hid m1
          have M2 := Lib.hid m2
          clear m1 m2
          go_wp2_with (at_builtin; refine wpList_append_own _ rfl _ _ 90 rfl w.heap.size 3 i0 (.int .i64 0) 1 8 Tryz.underlying90 hinf hz0 hz1 hz2 rfl (by decide) _ _ _ rfl (hown.alloc _) ⟨wr.heap.size, 0, none⟩ 1 1 [.int .i64 (S.tmod 65536 + 65536)] rfl rfl ?d1 ?d2 ?d3 ?d4 ?d5 ?_)
          case d2 => first | rfl | (intro u hu; simp at hu; subst hu; rfl)
          case d3 => first | omega | (unfold maxLen; omega)
          case d4 => omega
          case d5 => first | omega | (simp; omega)
          intro v' w1 hown' hgrow _
          have R1 := PUSH.out _ M2.out v' w1 hown'
          have R2 := push_below hnx hz hown hgrow
          clear hown' hgrow hown hnx hcell
          go_wp2
          go_roundw
          case rel => exact ⟨k + 1, by omega, by go_num, by rw [eC.out, ← M1.out], R1, R2⟩
          case measure => simp [intOf]; omega
        · have g0 : -1099511627776 ≤ S.tdiv 65536 := by omega
          have g1 : S.tdiv 65536 ≤ 1099511627776 := by omega
          have g2 : 0 ≤ S.tmod 65536 := by omega
          have M1 := Lib.hid m1
          have M2 := Lib.hid m2
          clear m1 m2 m0
          go_wp2_with (at_builtin; refine wpList_append_own _ rfl _ _ 90 rfl w.heap.size 3 i0 (.int .i64 0) 1 8 Tryz.underlying90 hinf hz0 hz1 hz2 rfl (by decide) _ _ _ rfl (hown.alloc _) ⟨wr.heap.size, 0, none⟩ 1 1 [.int .i64 (S.tmod 65536)] rfl rfl ?h1 ?h2 ?h3 ?h4 ?h5 ?_)
          case h2 => first | rfl | (intro u hu; simp at hu; subst hu; rfl)
          case h3 => first | omega | (unfold maxLen; omega)
          case h4 => omega
          case h5 => first | omega | (simp; omega)
          intro v' w1 hown' hgrow _
          have R1 := PUSH.out _ M2.out v' w1 hown'
          have R2 := push_below hnx hz hown hgrow
          clear hown' hgrow hown hnx hcell
          go_wp2
          go_roundw
          case rel => exact ⟨k + 1, by omega, by go_num, by rw [eC.out, ← M1.out], R1, R2⟩
          case measure => simp [intOf]; omega
    · obtain rfl : k = 8 := by omega
      obtain ⟨g', c', hv, hg, hc, R⟩ := owned_row (cl_length f 8) hown
      clear hown
      rw [hv]
      go_wp2
      go_ret
      exact ⟨g', c', rfl, R, hnx⟩
end Go.Proofs.YtcndlcogainnkaaGreatDoor.dec

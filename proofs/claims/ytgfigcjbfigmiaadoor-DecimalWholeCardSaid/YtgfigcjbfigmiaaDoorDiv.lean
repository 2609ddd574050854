/-
  math/bits.Div64 and exact.Divide.
-/
import Derived.Test.YtgfigcjbfigmiaaDoorCmp
import Derived.Test.YtgfigcjbfigmiaaDoorKn
import Derived.Deep.CutBlock
import Derived.Deep.DeepCutAuto
import Derived.Deep.LoopGhost
import Derived.Shelf.Small.Bits
import Derived.Shelf.Strconv.Itoa0
namespace Go.Proofs.YtgfigcjbfigmiaaDoor
open Go.RowKit Go.Shelf
theorem Tryd.lays134 : Go.Proofs.Lays.n134 Tryd.prog ⟨fun | 134 => 54 | 129 => 59 | n => n, fun | 53 => 29 | 3 => 3 | 4 => 4 | 46 => 55 | 5 => 5 | 9 => 9 | n => n, fun | n => n⟩ := {
  mixed := by kernel_rfl
  f129 := Tryd.func59.trans (congrArg some (by kernel_rfl))
  f134 := Tryd.func54.trans (congrArg some (by kernel_rfl))
  t3 := Tryd.underlying3
  a3 := Tryd.isAgg3
  z3 := Tryd.sizeOf3
  v3 := Tryd.zeroValue3
  t4 := Tryd.underlying4
  a4 := Tryd.isAgg4
  z4 := Tryd.sizeOf4
  v4 := Tryd.zeroValue4
  t5 := Tryd.underlying5
  a5 := Tryd.isAgg5
  z5 := Tryd.sizeOf5
  v5 := Tryd.zeroValue5
  t9 := Tryd.underlying9
  a9 := Tryd.isAgg9
  z9 := Tryd.sizeOf9
  v9 := Tryd.zeroValue9
  t46 := Tryd.underlying55
  a46 := Tryd.isAgg55
  z46 := Tryd.sizeOf55
  v46 := Tryd.zeroValue55
  t53 := Tryd.underlying29
  a53 := Tryd.isAgg29
  z53 := Tryd.sizeOf29
  v53 := Tryd.zeroValue29 }

theorem lead_any (x s : Int) (w : World) (h0 : 0 ≤ x) (h1 : x ≤ 18446744073709551615) (hs : 64 - (Lib.bitLen x.toNat : Int) = s) :
    Calls Tryd.prog 54 #[.int .u64 x] w fun e w' => e = .returned (.int .i64 s) ∧ w = w' := by
  refine (Any.bits_LeadingZeros64 Tryd.lays134 x w h0 h1).mono ?_
  rintro e w' ⟨rfl, rfl⟩
  rw [hs]
  exact ⟨rfl, rfl⟩

set_option maxHeartbeats 2000000 in
theorem div64_core (hi lo y s Y u l y1 y0 v1 v0 : Int) (w : World) (h1 : 1 ≤ hi) (h2 : hi < y) (h3 : y ≤ 18446744073709551615) (_h4 : 0 ≤ lo) (_h5 : lo ≤ 18446744073709551615)
    (hs : Hid (64 - (Lib.bitLen y.toNat : Int) = s)) (s1 : 0 ≤ s) (s2 : s ≤ 63)
    (wY : IntKind.u64.wrap (y * 2 ^ s.toNat) = Y) (wu : bits BinOp.or IntKind.u64 (IntKind.u64.wrap (hi * 2 ^ s.toNat)) (lo / 2 ^ (64 - s).toNat) = u) (wl : IntKind.u64.wrap (lo * 2 ^ s.toNat) = l)
    (wy1 : Y / 4294967296 = y1) (wy0 : bits .and .u64 Y 4294967295 = y0) (wv1 : l / 4294967296 = v1) (wv0 : bits .and .u64 l 4294967295 = v0)
    (Y1 : Y ≤ 18446744073709551615) (u0 : 0 ≤ u) (u1 : u ≤ 18446744073709551615) (_l0 : 0 ≤ l) (_l1 : l ≤ 18446744073709551615)
    (ya : 2147483648 ≤ y1) (yb : y1 ≤ 4294967295) (yc : 0 ≤ y0) (yd : y0 ≤ 4294967295) (va : 0 ≤ v1) (vb : v1 ≤ 4294967295) (vc : 0 ≤ v0) (vd : v0 ≤ 4294967295)
    (K1 : Kn Y y1 y0 u v1) (K2 : Kn Y y1 y0 (rst u v1 Y) v0) :
    Calls Tryd.prog 44 #[.int .u64 hi, .int .u64 lo, .int .u64 y] w fun e w' => e = .returned (.tuple #[.int .u64 (dig u v1 Y * 4294967296 + dig (rst u v1 Y) v0 Y), .int .u64 (rst (rst u v1 Y) v0 Y / 2 ^ s.toNat)]) ∧ w = w' := by
  have a1 := K1.start
  obtain ⟨a2, a3⟩ := a1
  have a4 : 0 ≤ u / y1 := by have := K1.nonneg; omega
  have a5 : u / y1 * y1 ≤ u := Int.ediv_mul_le _ (by omega)
  have a6 : 0 ≤ u / y1 * y1 := Int.mul_nonneg a4 (by omega)
  have a7 : u - u / y1 * y1 < y1 := by have := Int.emod_lt_of_pos u (show 0 < y1 from by omega); rw [Int.emod_def, Int.mul_comm y1] at this; exact this
  have H2 := Lib.hid a2; clear a2
  go_enter Tryd.func44, Tryd.ntmps44
  go_upto_block 0 with (go_at_call 54; refine (lead_any y s _ (by omega) h3 hs.out).mono ?_; rintro e w' ⟨rfl, rfl⟩)
  go_cut [15] (fun q wx => q = .int .u64 (dig u v1 Y) ∧ wx = w)
  case first =>
    go_wp2_with fail
    go_loop [15, 16] (fun q r => ∃ a b : Int, q = .int .u64 a ∧ r = .int .u64 b ∧ 0 ≤ a ∧ 0 ≤ b ∧ b ≤ 4294967295 ∧ Guess y1 u (dig u v1 Y) a b) (fun q _ => (intOf q).toNat)
    case atStart => exact ⟨_, _, rfl, rfl, a4, by omega, by omega, H2.out, a3, by omega⟩
    case round =>
      obtain ⟨a, b, rfl, rfl, a0, b0, b1, g1, g2, g3⟩ := hrel
      have T := Lib.hid (K1.test g3)
      have d0 := K1.nonneg
      have d1 := K1.lt
      have G3 := Lib.hid (step_eq g3)
      have U : Hid (4294967296 ≤ b + y1 → a ≤ 4294967297 → a - 1 ≤ dig u v1 Y) := fun h h' => K1.out (step_eq g3) (by omega) h
      clear g3
      by_cases c1 : 4294967296 ≤ a
      · by_cases c3 : 4294967296 ≤ b + y1
        · go_wp2
          go_meet
          have e : a - 1 = dig u v1 Y := by have := U.out c3 g2; omega
          exact ⟨by rw [← e], rfl⟩
        · go_wp2
          exact ⟨⟨a - 1, b + y1, rfl, rfl, by omega, by omega, by omega, by omega, by omega, G3.out⟩, by simp [intOf]; omega⟩
      · have m0 : 0 ≤ a * y0 := Int.mul_nonneg a0 yc
        have m1 : a * y0 ≤ 18446744073709551615 := by have := Int.mul_le_mul (show a ≤ 4294967295 from by omega) yd yc (by omega); omega
        by_cases c2 : 4294967296 * b + v1 < a * y0
        · have f : dig u v1 Y < a := by have := T.out; omega
          by_cases c3 : 4294967296 ≤ b + y1
          · go_wp2
            go_meet
            have e : a - 1 = dig u v1 Y := by have := U.out c3 g2; omega
            exact ⟨by rw [← e], rfl⟩
          · go_wp2
            exact ⟨⟨a - 1, b + y1, rfl, rfl, by omega, by omega, by omega, by omega, by omega, G3.out⟩, by simp [intOf]; omega⟩
        · have f : a = dig u v1 Y := by have := T.out; omega
          have F := Lib.hid f
          clear f
          go_wp2
          go_meet
          exact ⟨by rw [← F.out], rfl⟩
  case rest =>
    obtain ⟨rfl, rfl⟩ := hcut
    clear a3 a4 a5 a6 a7 H2
    obtain ⟨r0, r1⟩ := K1.rest
    change 0 ≤ rst u v1 Y at r0
    change rst u v1 Y < Y at r1
    have E := wrap_rst r0 (by omega)
    have d0 := K1.nonneg
    have d1 := K1.lt
    have a1 := K2.start
    obtain ⟨a2, a3⟩ := a1
    obtain ⟨z0, z1⟩ := K2.rest
    change 0 ≤ rst (rst u v1 Y) v0 Y at z0
    change rst (rst u v1 Y) v0 Y < Y at z1
    have E' := wrap_rst z0 (by omega)
    have e0 := K2.nonneg
    have e1 := K2.lt
    generalize hu' : rst u v1 Y = u' at *
    have HU := Lib.hid hu'
    clear hu'
    have a4 : 0 ≤ u' / y1 := by omega
    have a5 : u' / y1 * y1 ≤ u' := Int.ediv_mul_le _ (by omega)
    have a6 : 0 ≤ u' / y1 * y1 := Int.mul_nonneg a4 (by omega)
    have a7 : u' - u' / y1 * y1 < y1 := by have := Int.emod_lt_of_pos u' (show 0 < y1 from by omega); rw [Int.emod_def, Int.mul_comm y1] at this; exact this
    have H2 := Lib.hid a2; clear a2
    go_upto_block 2 with fail
    go_cut [18] (fun q wx => q = .int .u64 (dig u' v0 Y) ∧ wx = wc)
    case first =>
      go_wp2_with fail
      go_loop [18, 16] (fun q r => ∃ a b : Int, q = .int .u64 a ∧ r = .int .u64 b ∧ 0 ≤ a ∧ 0 ≤ b ∧ b ≤ 4294967295 ∧ Guess y1 u' (dig u' v0 Y) a b) (fun q _ => (intOf q).toNat)
      case atStart => exact ⟨_, _, rfl, rfl, a4, by omega, by omega, H2.out, a3, by omega⟩
      case round =>
        obtain ⟨a, b, rfl, rfl, a0, b0, b1, g1, g2, g3⟩ := hrel
        have T := Lib.hid (K2.test g3)
        have d0 := K2.nonneg
        have d1 := K2.lt
        have G3 := Lib.hid (step_eq g3)
        have U : Hid (4294967296 ≤ b + y1 → a ≤ 4294967297 → a - 1 ≤ dig u' v0 Y) := fun h h' => K2.out (step_eq g3) (by omega) h
        clear g3
        by_cases c1 : 4294967296 ≤ a
        · by_cases c3 : 4294967296 ≤ b + y1
          · go_wp2
            go_meet
            have e : a - 1 = dig u' v0 Y := by have := U.out c3 g2; omega
            exact ⟨by rw [← e], rfl⟩
          · go_wp2
            exact ⟨⟨a - 1, b + y1, rfl, rfl, by omega, by omega, by omega, by omega, by omega, G3.out⟩, by simp [intOf]; omega⟩
        · have m0 : 0 ≤ a * y0 := Int.mul_nonneg a0 yc
          have m1 : a * y0 ≤ 18446744073709551615 := by have := Int.mul_le_mul (show a ≤ 4294967295 from by omega) yd yc (by omega); omega
          by_cases c2 : 4294967296 * b + v0 < a * y0
          · have f : dig u' v0 Y < a := by have := T.out; omega
            by_cases c3 : 4294967296 ≤ b + y1
            · go_wp2
              go_meet
              have e : a - 1 = dig u' v0 Y := by have := U.out c3 g2; omega
              exact ⟨by rw [← e], rfl⟩
            · go_wp2
              exact ⟨⟨a - 1, b + y1, rfl, rfl, by omega, by omega, by omega, by omega, by omega, G3.out⟩, by simp [intOf]; omega⟩
          · have f : a = dig u' v0 Y := by have := T.out; omega
            have F := Lib.hid f
            clear f
            go_wp2
            go_meet
            exact ⟨by rw [← F.out], rfl⟩
    case rest =>
      obtain ⟨rfl, rfl⟩ := hcut
      clear a3 a4 a5 a6 a7 H2
      go_wp2
      go_ret2
      exact ⟨by rw [HU.out]; rfl, rfl⟩

/-- math/bits.Div64 where the quotient fits. -/
theorem div64_any (hi lo y : Int) (w : World) (h1 : 0 ≤ hi) (h2 : hi < y) (h3 : y ≤ 18446744073709551615) (h4 : 0 ≤ lo) (h5 : lo ≤ 18446744073709551615) :
    Calls Tryd.prog 44 #[.int .u64 hi, .int .u64 lo, .int .u64 y] w fun e w' => e = .returned (.tuple #[.int .u64 ((hi * 18446744073709551616 + lo) / y), .int .u64 ((hi * 18446744073709551616 + lo) % y)]) ∧ ∃ n, w' = w.drewN n := by
  by_cases h0 : hi = 0
  · subst h0
    have e1 : (0 : Int) * 18446744073709551616 + lo = lo := by omega
    rw [e1]
    clear e1
    go_enter Tryd.func44, Tryd.ntmps44
    go_wp2
    go_quiet (fail)
    go_wp2
    go_ret2
    exact ⟨rfl, _, rfl⟩
  · obtain ⟨s, Y, u, l, N⟩ := norm_any hi lo y h1 h2 h3 h4 h5
    have Y0 := N.Y0; have Y1 := N.Y1; have u0 := N.u0; have u1 := N.u1; have l0 := N.l0; have l1 := N.l1
    have ay := and_low Y (by omega) Y1
    have al := and_low l l0 l1
    have K1 : Kn Y (Y / 4294967296) (Y % 4294967296) u (l / 4294967296) := ⟨by omega, by omega, by omega, by omega, by omega, u0, u1, by omega, by omega⟩
    have R := K1.rest
    have K2 : Kn Y (Y / 4294967296) (Y % 4294967296) (rst u (l / 4294967296) Y) (l % 4294967296) := ⟨by omega, by omega, by omega, by omega, by omega, R.1, R.2, by omega, by omega⟩
    have D := two_digits (N := hi * 18446744073709551616 + lo) (v1 := l / 4294967296) (v0 := l % 4294967296) N.pos N.eN N.eY (by omega) (by omega) K2.rest.1 K2.rest.2
    refine (div64_core hi lo y s Y u l _ _ _ _ w (by omega) h2 h3 h4 h5 N.len N.s0 N.s1 N.wY N.wu N.wl rfl ay rfl al Y1 u0 (by omega) l0 l1 (by omega) (by omega) (by omega) (by omega) (by omega) (by omega) (by omega) (by omega) K1 K2).mono ?_
    rintro e w' ⟨rfl, rfl⟩
    rw [D.1, D.2]
    exact ⟨rfl, 0, rfl⟩
end Go.Proofs.YtgfigcjbfigmiaaDoor

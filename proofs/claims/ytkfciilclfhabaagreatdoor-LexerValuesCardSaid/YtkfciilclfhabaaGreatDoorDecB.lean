/-
  exact.Divide and the contracts of packages exact and decimal (taken over from stages 1 and 2).
-/
import Derived.Test.YtkfciilclfhabaaGreatDoorDecA
import Derived.Deep.CutBlock
import Derived.Deep.DeepCutAuto
import Derived.Deep.LoopGhost
import Derived.Shelf.Small.Bits
import Derived.Shelf.Strconv.Itoa0
import Derived.Lib.SmallJoins
import Derived.Lib.QuietBelow
namespace Go.Proofs.YtkfciilclfhabaaGreatDoor.dec
open Go.RowKit Go.Shelf
theorem Tryz.lays134 : Go.Proofs.Lays.n134 Tryz.prog ⟨fun | 134 => 113 | 129 => 126 | n => n, fun | 53 => 76 | 3 => 3 | 4 => 4 | 46 => 129 | 5 => 5 | 9 => 9 | n => n, fun | n => n⟩ := {
  mixed := by kernel_rfl
  f129 := Tryz.func126.trans (congrArg some (by kernel_rfl))
  f134 := Tryz.func113.trans (congrArg some (by kernel_rfl))
  t3 := Tryz.underlying3
  a3 := Tryz.isAgg3
  z3 := Tryz.sizeOf3
  v3 := Tryz.zeroValue3
  t4 := Tryz.underlying4
  a4 := Tryz.isAgg4
  z4 := Tryz.sizeOf4
  v4 := Tryz.zeroValue4
  t5 := Tryz.underlying5
  a5 := Tryz.isAgg5
  z5 := Tryz.sizeOf5
  v5 := Tryz.zeroValue5
  t9 := Tryz.underlying9
  a9 := Tryz.isAgg9
  z9 := Tryz.sizeOf9
  v9 := Tryz.zeroValue9
  t46 := Tryz.underlying129
  a46 := Tryz.isAgg129
  z46 := Tryz.sizeOf129
  v46 := Tryz.zeroValue129
  t53 := Tryz.underlying76
  a53 := Tryz.isAgg76
  z53 := Tryz.sizeOf76
  v53 := Tryz.zeroValue76 }

theorem lead_any (x s : Int) (w : World) (h0 : 0 ≤ x) (h1 : x ≤ 18446744073709551615) (hs : 64 - (Lib.bitLen x.toNat : Int) = s) :
    Calls Tryz.prog 113 #[.int .u64 x] w fun e w' => e = .returned (.int .i64 s) ∧ w = w' := by
  refine (Any.bits_LeadingZeros64 Tryz.lays134 x w h0 h1).mono ?_
  rintro e w' ⟨rfl, rfl⟩
  rw [hs]
  exact ⟨rfl, rfl⟩

set_option maxHeartbeats 2000000 in
theorem div64_core (hi lo y s Y u l y1 y0 v1 v0 : Int) (w : World) (h1 : 1 ≤ hi) (h2 : hi < y) (h3 : y ≤ 18446744073709551615) (_h4 : 0 ≤ lo) (_h5 : lo ≤ 18446744073709551615)
    (hs : Hid (64 - (Lib.bitLen y.toNat : Int) = s)) (s1 : 0 ≤ s) (s2 : s ≤ 63)
    (wY : IntKind.u64.wrap (y * 2 ^ s.toNat) = Y) (wu : bits BinOp.or IntKind.u64 (IntKind.u64.wrap (hi * 2 ^ s.toNat)) (lo / 2 ^ (64 - s).toNat) = u) (wl : IntKind.u64.wrap (lo * 2 ^ s.toNat) = l)
    (wy1 : Y / 4294967296 = y1) (wy0 : bits .and .u64 Y 4294967295 = y0) (wv1 : l / 4294967296 = v1) (wv0 : bits .and .u64 l 4294967295 = v0)
    (Y1 : Y ≤ 18446744073709551615) (u0 : 0 ≤ u) (u1 : u ≤ 18446744073709551615) (_l0 : 0 ≤ l) (_l1 : l ≤ 18446744073709551615)
    (ya : 2147483648 ≤ y1) (yb : y1 ≤ 4294967295) (yc : 0 ≤ y0) (yd : y0 ≤ 4294967295) (va : 0 ≤ v1) (vb : v1 ≤ 4294967295) (vc : 0 ≤ v0) (vd : v0 ≤ 4294967295)
    (K1 : Kn Y y1 y0 u v1) (K2 : Kn Y y1 y0 (rst u v1 Y) v0) :
    Calls Tryz.prog 95 #[.int .u64 hi, .int .u64 lo, .int .u64 y] w fun e w' => e = .returned (.tuple #[.int .u64 (dig u v1 Y * 4294967296 + dig (rst u v1 Y) v0 Y), .int .u64 (rst (rst u v1 Y) v0 Y / 2 ^ s.toNat)]) ∧ w = w' := by
  have a1 := K1.start
  obtain ⟨a2, a3⟩ := a1
  have a4 : 0 ≤ u / y1 := by have := K1.nonneg; omega
  have a5 : u / y1 * y1 ≤ u := Int.ediv_mul_le _ (by omega)
  have a6 : 0 ≤ u / y1 * y1 := Int.mul_nonneg a4 (by omega)
  have a7 : u - u / y1 * y1 < y1 := by have := Int.emod_lt_of_pos u (show 0 < y1 from by omega); rw [Int.emod_def, Int.mul_comm y1] at this; exact this
  have H2 := Lib.hid a2; clear a2
  go_enter Tryz.func95, Tryz.ntmps95
  go_upto_block 0 with (go_at_call 113; refine (lead_any y s _ (by omega) h3 hs.out).mono ?_; rintro e w' ⟨rfl, rfl⟩)
  go_cut [15] (fun q wx => q = .int .u64 (dig u v1 Y) ∧ wx = w)
  case first =>
    go_wp2_with fail
    go_loop [15, 16] (fun q r => ∃ a b : Int, q = .int .u64 a ∧ r = .int .u64 b ∧ 0 ≤ a ∧ 0 ≤ b ∧ b ≤ 4294967295 ∧ Guess y1 u (dig u v1 Y) a b) (fun q _ => (intOf q).toNat)
    case atStart => exact ⟨_, _, rfl, rfl, a4, by omega, by omega, H2.out, a3, by omega⟩
    case round =>
      obtain ⟨a, b, rfl, rfl, a0, b0, b1, g1, g2, g3⟩ := hrel
      have T := Lib.hid (K1.test g3)
      have d0 := K1.nonneg
      have d1 := K1.lt
      have G3 := Lib.hid (step_eq g3)
      have U : Hid (4294967296 ≤ b + y1 → a ≤ 4294967297 → a - 1 ≤ dig u v1 Y) := fun h h' => K1.out (step_eq g3) (by omega) h
      clear g3
      by_cases c1 : 4294967296 ≤ a
      · by_cases c3 : 4294967296 ≤ b + y1
        · go_wp2
          go_meet
          have e : a - 1 = dig u v1 Y := by have := U.out c3 g2; omega
          exact ⟨by rw [← e], rfl⟩
        · go_wp2
          exact ⟨⟨a - 1, b + y1, rfl, rfl, by omega, by omega, by omega, by omega, by omega, G3.out⟩, by simp [intOf]; omega⟩
      · have m0 : 0 ≤ a * y0 := Int.mul_nonneg a0 yc
        have m1 : a * y0 ≤ 18446744073709551615 := by have := Int.mul_le_mul (show a ≤ 4294967295 from by omega) yd yc (by omega); omega
        by_cases c2 : 4294967296 * b + v1 < a * y0
        · have f : dig u v1 Y < a := by have := T.out; omega
          by_cases c3 : 4294967296 ≤ b + y1
          · go_wp2
            go_meet
            have e : a - 1 = dig u v1 Y := by have := U.out c3 g2; omega
            exact ⟨by rw [← e], rfl⟩
          · go_wp2
            exact ⟨⟨a - 1, b + y1, rfl, rfl, by omega, by omega, by omega, by omega, by omega, G3.out⟩, by simp [intOf]; omega⟩
        · have f : a = dig u v1 Y := by have := T.out; omega
          have F := Lib.hid f
          clear f
          go_wp2
          go_meet
          exact ⟨by rw [← F.out], rfl⟩
  case rest =>
    obtain ⟨rfl, rfl⟩ := hcut
    clear a3 a4 a5 a6 a7 H2
    obtain ⟨r0, r1⟩ := K1.rest
    change 0 ≤ rst u v1 Y at r0
    change rst u v1 Y < Y at r1
    have E := wrap_rst r0 (by omega)
    have d0 := K1.nonneg
    have d1 := K1.lt
    have a1 := K2.start
    obtain ⟨a2, a3⟩ := a1
    obtain ⟨z0, z1⟩ := K2.rest
    change 0 ≤ rst (rst u v1 Y) v0 Y at z0
    change rst (rst u v1 Y) v0 Y < Y at z1
    have E' := wrap_rst z0 (by omega)
    have e0 := K2.nonneg
    have e1 := K2.lt
    generalize hu' : rst u v1 Y = u' at *
    have HU := Lib.hid hu'
    clear hu'
    have a4 : 0 ≤ u' / y1 := by omega
    have a5 : u' / y1 * y1 ≤ u' := Int.ediv_mul_le _ (by omega)
    have a6 : 0 ≤ u' / y1 * y1 := Int.mul_nonneg a4 (by omega)
    have a7 : u' - u' / y1 * y1 < y1 := by have := Int.emod_lt_of_pos u' (show 0 < y1 from by omega); rw [Int.emod_def, Int.mul_comm y1] at this; exact this
    have H2 := Lib.hid a2; clear a2
    go_upto_block 2 with fail
    go_cut [18] (fun q wx => q = .int .u64 (dig u' v0 Y) ∧ wx = wc)
    case first =>
      go_wp2_with fail
      go_loop [18, 16] (fun q r => ∃ a b : Int, q = .int .u64 a ∧ r = .int .u64 b ∧ 0 ≤ a ∧ 0 ≤ b ∧ b ≤ 4294967295 ∧ Guess y1 u' (dig u' v0 Y) a b) (fun q _ => (intOf q).toNat)
      case atStart => exact ⟨_, _, rfl, rfl, a4, by omega, by omega, H2.out, a3, by omega⟩
      case round =>
        obtain ⟨a, b, rfl, rfl, a0, b0, b1, g1, g2, g3⟩ := hrel
        have T := Lib.hid (K2.test g3)
        have d0 := K2.nonneg
        have d1 := K2.lt
        have G3 := Lib.hid (step_eq g3)
        have U : Hid (4294967296 ≤ b + y1 → a ≤ 4294967297 → a - 1 ≤ dig u' v0 Y) := fun h h' => K2.out (step_eq g3) (by omega) h
        clear g3
        by_cases c1 : 4294967296 ≤ a
        · by_cases c3 : 4294967296 ≤ b + y1
          · go_wp2
            go_meet
            have e : a - 1 = dig u' v0 Y := by have := U.out c3 g2; omega
            exact ⟨by rw [← e], rfl⟩
          · go_wp2
            exact ⟨⟨a - 1, b + y1, rfl, rfl, by omega, by omega, by omega, by omega, by omega, G3.out⟩, by simp [intOf]; omega⟩
        · have m0 : 0 ≤ a * y0 := Int.mul_nonneg a0 yc
          have m1 : a * y0 ≤ 18446744073709551615 := by have := Int.mul_le_mul (show a ≤ 4294967295 from by omega) yd yc (by omega); omega
          by_cases c2 : 4294967296 * b + v0 < a * y0
          · have f : dig u' v0 Y < a := by have := T.out; omega
            by_cases c3 : 4294967296 ≤ b + y1
            · go_wp2
              go_meet
              have e : a - 1 = dig u' v0 Y := by have := U.out c3 g2; omega
              exact ⟨by rw [← e], rfl⟩
            · go_wp2
              exact ⟨⟨a - 1, b + y1, rfl, rfl, by omega, by omega, by omega, by omega, by omega, G3.out⟩, by simp [intOf]; omega⟩
          · have f : a = dig u' v0 Y := by have := T.out; omega
            have F := Lib.hid f
            clear f
            go_wp2
            go_meet
            exact ⟨by rw [← F.out], rfl⟩
    case rest =>
      obtain ⟨rfl, rfl⟩ := hcut
      clear a3 a4 a5 a6 a7 H2
      go_wp2
      go_ret2
      exact ⟨by rw [HU.out]; rfl, rfl⟩

/-- math/bits.Div64 where the quotient fits. -/
theorem div64_any (hi lo y : Int) (w : World) (h1 : 0 ≤ hi) (h2 : hi < y) (h3 : y ≤ 18446744073709551615) (h4 : 0 ≤ lo) (h5 : lo ≤ 18446744073709551615) :
    Calls Tryz.prog 95 #[.int .u64 hi, .int .u64 lo, .int .u64 y] w fun e w' => e = .returned (.tuple #[.int .u64 ((hi * 18446744073709551616 + lo) / y), .int .u64 ((hi * 18446744073709551616 + lo) % y)]) ∧ ∃ n, w' = w.drewN n := by
  by_cases h0 : hi = 0
  · subst h0
    have e1 : (0 : Int) * 18446744073709551616 + lo = lo := by omega
    rw [e1]
    clear e1
    go_enter Tryz.func95, Tryz.ntmps95
    go_wp2
    go_quiet (fail)
    go_wp2
    go_ret2
    exact ⟨rfl, _, rfl⟩
  · obtain ⟨s, Y, u, l, N⟩ := norm_any hi lo y h1 h2 h3 h4 h5
    have Y0 := N.Y0; have Y1 := N.Y1; have u0 := N.u0; have u1 := N.u1; have l0 := N.l0; have l1 := N.l1
    have ay := and_low Y (by omega) Y1
    have al := and_low l l0 l1
    have K1 : Kn Y (Y / 4294967296) (Y % 4294967296) u (l / 4294967296) := ⟨by omega, by omega, by omega, by omega, by omega, u0, u1, by omega, by omega⟩
    have R := K1.rest
    have K2 : Kn Y (Y / 4294967296) (Y % 4294967296) (rst u (l / 4294967296) Y) (l % 4294967296) := ⟨by omega, by omega, by omega, by omega, by omega, R.1, R.2, by omega, by omega⟩
    have D := two_digits (N := hi * 18446744073709551616 + lo) (v1 := l / 4294967296) (v0 := l % 4294967296) N.pos N.eN N.eY (by omega) (by omega) K2.rest.1 K2.rest.2
    refine (div64_core hi lo y s Y u l _ _ _ _ w (by omega) h2 h3 h4 h5 N.len N.s0 N.s1 N.wY N.wu N.wl rfl ay rfl al Y1 u0 (by omega) l0 l1 (by omega) (by omega) (by omega) (by omega) (by omega) (by omega) (by omega) (by omega) K1 K2).mono ?_
    rintro e w' ⟨rfl, rfl⟩
    rw [D.1, D.2]
    exact ⟨rfl, 0, rfl⟩
end Go.Proofs.YtkfciilclfhabaaGreatDoor.dec

namespace Go.Proofs.YtkfciilclfhabaaGreatDoor.dec
open Go.RowKit Go.Shelf

theorem keeps_alloc {w : World} {p : Addr} {v : Value} (o : Obj) (h : w.cell? p = some v) : (w.alloc o).cell? p = some v := by
  rw [World.cell?_alloc_lt _ _ _ (block_lt_of_cell h)]; exact h
theorem below_drewN' {B : Nat} {a w : World} (h : Below B a w) (n : Nat) : Below B a (w.drewN n) := ⟨h.os, h.tape, h.output, h.size, h.block⟩
theorem divide_below {w w1 w2 : World} {o1 o2 : Obj} (o3 : Obj) (hb1 : Below (w.alloc o1).heap.size (w.alloc o1) w1) (hb2 : Below (w1.alloc o2).heap.size (w1.alloc o2) w2) : Below w.heap.size w (w2.alloc o3) := by
  have s1 := hb1.size
  have s2 := hb2.size
  simp only [World.size_alloc] at s1 s2
  have b1 : Below w.heap.size w w1 := ((Below.refl _ _).alloc (Nat.le_refl _) _).trans (hb1.mono (by simp))
  have b2 : Below w.heap.size w w2 := (b1.alloc (by omega) _).trans (hb2.mono (by simp; omega))
  exact b2.alloc (by omega) _

set_option maxHeartbeats 1000000 in
/-- exact.Divide. -/
theorem divide_any {y : Value} {a : Int} (d : Int) (hx : y = W a) (ia : In a) (w : World) (d1 : -9223372036854775808 ≤ d) (d2 : d ≤ 9223372036854775807) :
    Calls Tryz.prog 74 #[y, .int .i64 d] w fun e w' => e = .returned (.tuple #[.int .i64 (dv a d), .bool (dvOk a d)]) ∧ Below w.heap.size w w' := by
  subst hx
  obtain ⟨A, D, ah, al, q, r, x, h⟩ : ∃ A D ah al q r x, Dv a d A D ah al q r x := ⟨_, _, _, _, _, _, _, rfl, rfl, rfl, rfl, rfl, rfl, rfl⟩
  have id : In d := by unfold In; omega
  have sa := hi_neg ia
  have rA := ab_nonneg a
  have rD := ab_nonneg d
  have rD' : ab d ≤ 9223372036854775808 := by unfold ab; split <;> omega
  have rA' : ab a ≤ 170141183460469231731687303715884105728 := by unfold In at ia; unfold ab; split <;> omega
  have cA := size_any (a := a) rfl ia
  have cD := size_any (a := d) rfl id
  rw [h.A0, h.eah, h.eal] at cA
  rw [h.D0] at cD rD rD'
  rw [h.A0] at rA rA'
  have eD : D % 18446744073709551616 = D := by omega
  rw [eD] at cD
  have bh1 : 0 ≤ ah := by have := h.eah; omega
  have bl1 : 0 ≤ al := by have := h.eal; omega
  have bl2 : al ≤ 18446744073709551615 := by have := h.eal; omega
  have CA := Lib.hid cA
  have CD := Lib.hid cD
  clear cA cD eD
  have i0 : ∀ w, (Instr.index 110 (.agg #[.int .u64 D, .int .u64 (D / 18446744073709551616)]) (.int .i64 0)).run Tryz.prog w = .ok (.int .u64 D) w := fun _ => by kernel_rfl
  unfold W
  by_cases c1 : D ≤ ah
  · have R1 := Lib.hid (h.none1 c1)
    have R2 := Lib.hid (dv_no R1.out)
    clear h
    go_enter Tryz.func74, Tryz.ntmps74
    go_wp2_with fail
    refine (CA.out _).mono ?_
    rintro e w1 ⟨rfl, hb1⟩
    obtain ⟨hc1, hf1, hs1⟩ := bfacts hb1
    go_wp2_with fail
    refine (of_any _ _ d1 d2).mono ?_
    rintro e w' ⟨rfl, k1, rfl⟩
    go_wp2_with fail
    refine (CD.out _).mono ?_
    rintro e w2 ⟨rfl, hb2⟩
    obtain ⟨hc2, hf2, hs2⟩ := bfacts hb2
    go_wp2_with fail
    go_ret2
    exact ⟨by rw [R1.out, R2.out]; rfl, divide_below _ hb1 hb2⟩
  · have q0 : 0 ≤ q := by rw [h.eq]; exact Int.ediv_nonneg rA rD
    have q1 : q ≤ 18446744073709551615 := by
      have : q < 18446744073709551616 := by rw [h.eq, Int.ediv_lt_iff_lt_mul (by omega)]; have := h.eah; omega
      omega
    have r0 : 0 ≤ r := by rw [h.er]; exact Int.emod_nonneg _ (by omega)
    have r1 : r < D := by rw [h.er]; exact Int.emod_lt_of_pos _ (by omega)
    obtain ⟨x0, x1⟩ := ru_range q r D
    rw [← h.ex] at x0 x1
    have eA : ah * 18446744073709551616 + al = A := by have := h.eah; have := h.eal; omega
    have CV : Hid (∀ w, Calls Tryz.prog 95 #[.int .u64 ah, .int .u64 al, .int .u64 D] w fun e w' => e = .returned (.tuple #[.int .u64 q, .int .u64 r]) ∧ ∃ n, w' = w.drewN n) := by
      intro w
      have := div64_any ah al D w bh1 (by omega) (by omega) bl1 bl2
      rw [eA, ← h.eq, ← h.er] at this
      exact this
    have CR : Hid (∀ w, Calls Tryz.prog 96 #[.int .u64 q, .int .u64 r, .int .u64 D] w fun e w' => e = .returned (.int .u64 x) ∧ w = w') := by
      intro w
      have := roundUp_any q r D w q0 r0 r1 (by omega)
      rw [← h.ex] at this
      exact this
    clear eA
    have R3 := Lib.hid (fun g => h.none3 g)
    have R2 := Lib.hid (fun g => h.none2 g)
    have R4 := Lib.hid (fun g => h.some (by omega) g)
    have R5 := Lib.hid h.sq
    clear h
    by_cases c2 : 1152921504606846976 < q
    · have R1 := Lib.hid (R3.out c2)
      have R2 := Lib.hid (dv_no R1.out)
      go_enter Tryz.func74, Tryz.ntmps74
      go_wp2_with fail
      refine (CA.out _).mono ?_
      rintro e w1 ⟨rfl, hb1⟩
      obtain ⟨hc1, hf1, hs1⟩ := bfacts hb1
      go_wp2_with fail
      refine (of_any _ _ d1 d2).mono ?_
      rintro e w' ⟨rfl, k1, rfl⟩
      go_wp2_with fail
      refine (CD.out _).mono ?_
      rintro e w2 ⟨rfl, hb2⟩
      obtain ⟨hc2, hf2, hs2⟩ := bfacts hb2
      go_wp2_with fail
      refine (CV.out _).mono ?_
      rintro e w' ⟨rfl, n, rfl⟩
      go_wp2_with fail
      go_ret2
      exact ⟨by rw [R1.out, R2.out]; rfl, below_drewN' (divide_below _ hb1 hb2) _⟩
    · by_cases c3 : 1152921504606846976 < q + x
      · have R1 := Lib.hid (R2.out c3)
        have R2 := Lib.hid (dv_no R1.out)
        go_enter Tryz.func74, Tryz.ntmps74
        go_wp2_with fail
        refine (CA.out _).mono ?_
        rintro e w1 ⟨rfl, hb1⟩
        obtain ⟨hc1, hf1, hs1⟩ := bfacts hb1
        go_wp2_with fail
        refine (of_any _ _ d1 d2).mono ?_
        rintro e w' ⟨rfl, k1, rfl⟩
        go_wp2_with fail
        refine (CD.out _).mono ?_
        rintro e w2 ⟨rfl, hb2⟩
        obtain ⟨hc2, hf2, hs2⟩ := bfacts hb2
        go_wp2_with fail
        refine (CV.out _).mono ?_
        rintro e w' ⟨rfl, n, rfl⟩
        go_wp2_with fail
        refine (CR.out _).mono ?_
        rintro e w' ⟨rfl, rfl⟩
        go_wp2_with fail
        go_ret2
        exact ⟨by rw [R1.out, R2.out]; rfl, below_drewN' (divide_below _ hb1 hb2) _⟩
      · have R1 := Lib.hid (R4.out (by omega))
        have R6 := Lib.hid (dv_yes R1.out)
        by_cases s1 : a < 0
        · have s1' : hi a < 0 := sa.2 s1
          have s1'' : decide (hi a < 0) = true := by simp; omega
          clear sa
          by_cases s2 : d < 0
          · have s2' : decide (d < 0) = true := by simp; omega
            have R7 : Hid (sq a d = q + x) := by unfold Hid; rw [R5.out, if_neg (by omega)]
            go_enter Tryz.func74, Tryz.ntmps74
            go_wp2_with fail
            refine (CA.out _).mono ?_
            rintro e w1 ⟨rfl, hb1⟩
            have f1 := keeps hb1 (k := w.heap.size) (o := 0) (v := .int .i64 (hi a)) (by simp [go_sem])
            go_wp2_with fail
            refine (of_any _ _ d1 d2).mono ?_
            rintro e w' ⟨rfl, k1, rfl⟩
            go_wp2_with fail
            refine (CD.out _).mono ?_
            rintro e w2 ⟨rfl, hb2⟩
            have f2 := keeps hb2 (keeps_alloc _ f1)
            have z2 : w.heap.size < w2.heap.size := block_lt_of_cell f2
            go_wp2_with fail
            refine (CV.out _).mono ?_
            rintro e w' ⟨rfl, n, rfl⟩
            go_wp2_with fail
            refine (CR.out _).mono ?_
            rintro e w' ⟨rfl, rfl⟩
            go_wp2_with fail
            go_ret2
            exact ⟨by rw [R1.out, R6.out, R7.out]; rfl, below_drewN' (divide_below _ hb1 hb2) _⟩
          · have s2' : decide (d < 0) = false := by simp; omega
            have R7 : Hid (sq a d = -(q + x)) := by unfold Hid; rw [R5.out, if_pos (by omega)]
            go_enter Tryz.func74, Tryz.ntmps74
            go_wp2_with fail
            refine (CA.out _).mono ?_
            rintro e w1 ⟨rfl, hb1⟩
            have f1 := keeps hb1 (k := w.heap.size) (o := 0) (v := .int .i64 (hi a)) (by simp [go_sem])
            go_wp2_with fail
            refine (of_any _ _ d1 d2).mono ?_
            rintro e w' ⟨rfl, k1, rfl⟩
            go_wp2_with fail
            refine (CD.out _).mono ?_
            rintro e w2 ⟨rfl, hb2⟩
            have f2 := keeps hb2 (keeps_alloc _ f1)
            have z2 : w.heap.size < w2.heap.size := block_lt_of_cell f2
            go_wp2_with fail
            refine (CV.out _).mono ?_
            rintro e w' ⟨rfl, n, rfl⟩
            go_wp2_with fail
            refine (CR.out _).mono ?_
            rintro e w' ⟨rfl, rfl⟩
            go_wp2_with fail
            go_ret2
            exact ⟨by rw [R1.out, R6.out, R7.out]; rfl, below_drewN' (divide_below _ hb1 hb2) _⟩
        · have s1' : ¬ hi a < 0 := by omega
          have s1'' : decide (hi a < 0) = false := by simp; omega
          clear sa
          by_cases s2 : d < 0
          · have s2' : decide (d < 0) = true := by simp; omega
            have R7 : Hid (sq a d = -(q + x)) := by unfold Hid; rw [R5.out, if_pos (by omega)]
            go_enter Tryz.func74, Tryz.ntmps74
            go_wp2_with fail
            refine (CA.out _).mono ?_
            rintro e w1 ⟨rfl, hb1⟩
            have f1 := keeps hb1 (k := w.heap.size) (o := 0) (v := .int .i64 (hi a)) (by simp [go_sem])
            go_wp2_with fail
            refine (of_any _ _ d1 d2).mono ?_
            rintro e w' ⟨rfl, k1, rfl⟩
            go_wp2_with fail
            refine (CD.out _).mono ?_
            rintro e w2 ⟨rfl, hb2⟩
            have f2 := keeps hb2 (keeps_alloc _ f1)
            have z2 : w.heap.size < w2.heap.size := block_lt_of_cell f2
            go_wp2_with fail
            refine (CV.out _).mono ?_
            rintro e w' ⟨rfl, n, rfl⟩
            go_wp2_with fail
            refine (CR.out _).mono ?_
            rintro e w' ⟨rfl, rfl⟩
            go_wp2_with fail
            go_ret2
            exact ⟨by rw [R1.out, R6.out, R7.out]; rfl, below_drewN' (divide_below _ hb1 hb2) _⟩
          · have s2' : decide (d < 0) = false := by simp; omega
            have R7 : Hid (sq a d = q + x) := by unfold Hid; rw [R5.out, if_neg (by omega)]
            go_enter Tryz.func74, Tryz.ntmps74
            go_wp2_with fail
            refine (CA.out _).mono ?_
            rintro e w1 ⟨rfl, hb1⟩
            have f1 := keeps hb1 (k := w.heap.size) (o := 0) (v := .int .i64 (hi a)) (by simp [go_sem])
            go_wp2_with fail
            refine (of_any _ _ d1 d2).mono ?_
            rintro e w' ⟨rfl, k1, rfl⟩
            go_wp2_with fail
            refine (CD.out _).mono ?_
            rintro e w2 ⟨rfl, hb2⟩
            have f2 := keeps hb2 (keeps_alloc _ f1)
            have z2 : w.heap.size < w2.heap.size := block_lt_of_cell f2
            go_wp2_with fail
            refine (CV.out _).mono ?_
            rintro e w' ⟨rfl, n, rfl⟩
            go_wp2_with fail
            refine (CR.out _).mono ?_
            rintro e w' ⟨rfl, rfl⟩
            go_wp2_with fail
            go_ret2
            exact ⟨by rw [R1.out, R6.out, R7.out]; rfl, below_drewN' (divide_below _ hb1 hb2) _⟩
end Go.Proofs.YtkfciilclfhabaaGreatDoor.dec

namespace Go.Proofs.YtkfciilclfhabaaGreatDoor.dec
open Go.RowKit Go.Shelf

theorem bnext {w a b : World} (h : Below w.heap.size w a) (k : Below a.heap.size a b) : Below w.heap.size w b := h.trans (k.mono h.size)
theorem balloc {w a : World} (h : Below w.heap.size w a) (o : Obj) : Below w.heap.size w (a.alloc o) := h.alloc h.size o
theorem b0 (w : World) : Below w.heap.size w w := Below.refl _ _

theorem of_b (n : Int) (w : World) (h1 : -9223372036854775808 ≤ n) (h2 : n ≤ 9223372036854775807) :
    Calls Tryz.prog 76 #[.int .i64 n] w fun e w' => e = .returned (W n) ∧ Below w.heap.size w w' :=
  (of_any n w h1 h2).mono fun _ _ ⟨he, _, hw⟩ => ⟨he, hw ▸ balloc (b0 w) _⟩
theorem sub_b {x y : Value} {a b : Int} (hx : x = W a) (hy : y = W b) (w : World) :
    Calls Tryz.prog 125 #[x, y] w fun e w' => e = .returned (W (a - b)) ∧ Below w.heap.size w w' :=
  (sub_any hx hy w).mono fun _ _ ⟨he, _, _, _, hw⟩ => ⟨he, hw ▸ balloc (balloc (balloc (b0 w) _) _) _⟩
theorem neg_b {x : Value} {a : Int} (hx : x = W a) (w : World) :
    Calls Tryz.prog 112 #[x] w fun e w' => e = .returned (W (-a)) ∧ Below w.heap.size w w' :=
  (neg_any hx w).mono fun _ _ ⟨he, _, _, _, _, _, hw⟩ => ⟨he, hw ▸ balloc (balloc (balloc (balloc (balloc (b0 w) _) _) _) _) _⟩
/-! The contracts with the pair written out. -/
theorem of_u (n : Int) (w : World) (h1 : -9223372036854775808 ≤ n) (h2 : n ≤ 9223372036854775807) :
    Calls Tryz.prog 76 #[.int .i64 n] w fun e w' => e = .returned (.agg #[.int .i64 (hi n), .int .u64 (lo n)]) ∧ Go.RowKit.Below w.heap.size w w' := of_b n w h1 h2
theorem sub_u (a b : Int) (w : World) :
    Calls Tryz.prog 125 #[.agg #[.int .i64 (hi a), .int .u64 (lo a)], .agg #[.int .i64 (hi b), .int .u64 (lo b)]] w fun e w' => e = .returned (.agg #[.int .i64 (hi (a - b)), .int .u64 (lo (a - b))]) ∧ Go.RowKit.Below w.heap.size w w' := sub_b rfl rfl w
theorem neg_u (a : Int) (w : World) :
    Calls Tryz.prog 112 #[.agg #[.int .i64 (hi a), .int .u64 (lo a)]] w fun e w' => e = .returned (.agg #[.int .i64 (hi (-a)), .int .u64 (lo (-a))]) ∧ Go.RowKit.Below w.heap.size w w' := neg_b rfl w
theorem mul_u (a b : Int) (w : World) (h1 : -9223372036854775808 ≤ a) (h2 : a ≤ 9223372036854775807) (h3 : -9223372036854775808 ≤ b) (h4 : b ≤ 9223372036854775807) :
    Calls Tryz.prog 46 #[.int .i64 a, .int .i64 b] w fun e w' => e = .returned (.agg #[.int .i64 (hi (a * b)), .int .u64 (lo (a * b))]) ∧ Go.RowKit.Below w.heap.size w w' := mul_any a b w h1 h2 h3 h4
theorem scale_u (a n : Int) (w : World) (h1 : -9223372036854775808 ≤ n) (h2 : n ≤ 9223372036854775807) :
    Calls Tryz.prog 75 #[.agg #[.int .i64 (hi a), .int .u64 (lo a)], .int .i64 n] w fun e w' => e = .returned (.agg #[.int .i64 (hi (a * n)), .int .u64 (lo (a * n))]) ∧ Go.RowKit.Below w.heap.size w w' := scale_any n rfl w h1 h2

theorem divide_at {a d r : Int} {b : Bool} (ia : In a) (d1 : -9223372036854775808 ≤ d) (d2 : d ≤ 9223372036854775807) (hr : dv a d = r) (hb : dvOk a d = b) (w : World) :
    Calls Tryz.prog 74 #[.agg #[.int .i64 (hi a), .int .u64 (lo a)], .int .i64 d] w fun e w' => e = .returned (.tuple #[.int .i64 r, .bool b]) ∧ Go.RowKit.Below w.heap.size w w' := by
  have := divide_any (a := a) d rfl ia w d1 d2
  rw [hr, hb] at this
  exact this
theorem cmp_cases (a b : Int) : (a < b ∧ cmp a b = -1) ∨ (a = b ∧ cmp a b = 0) ∨ (b < a ∧ cmp a b = 1) := by
  rcases Int.lt_trichotomy a b with h | h | h
  · exact .inl ⟨h, cmp_lt h⟩
  · exact .inr (.inl ⟨h, cmp_eq h⟩)
  · exact .inr (.inr ⟨h, cmp_gt h⟩)

/-! A variable of type Wide: the block k holds the pair of a. -/
def Box (w : World) (k : Nat) (a : Int) : Prop := w.cell? ⟨k, 0, none⟩ = some (.int .i64 (hi a)) ∧ w.cell? ⟨k, 1, none⟩ = some (.int .u64 (lo a))
theorem Box.new (w : World) (a : Int) : Box (w.alloc (.cells #[.int .i64 (hi a), .int .u64 (lo a)] 78)) w.heap.size a := ⟨by simp [go_sem], by simp [go_sem]⟩
theorem Box.keeps {w w1 : World} {k : Nat} {a : Int} (h : Box w k a) (hb : Go.RowKit.Below w.heap.size w w1) : Box w1 k a := ⟨Go.Proofs.YtkfciilclfhabaaGreatDoor.dec.keeps hb h.1, Go.Proofs.YtkfciilclfhabaaGreatDoor.dec.keeps hb h.2⟩
theorem Box.past {w : World} {k : Nat} {a : Int} (h : Box w k a) (o : Obj) : Box (w.alloc o) k a := ⟨keeps_alloc o h.1, keeps_alloc o h.2⟩
theorem Box.lt {w : World} {k : Nat} {a : Int} (h : Box w k a) : k < w.heap.size := block_lt_of_cell h.1
theorem Box.regrown {w : World} {k : Nat} {a : Int} (h : Box w k a) :
    (∀ d os, (Sort.grow (redrawn w d) os).cell? ⟨k, 0, none⟩ = some (.int .i64 (hi a))) ∧ (∀ d os, (Sort.grow (redrawn w d) os).cell? ⟨k, 1, none⟩ = some (.int .u64 (lo a))) := ⟨cell_regrown h.1, cell_regrown h.2⟩

theorem Box.put {w : World} {k : Nat} {a : Int} (h : Box w k a) (b : Int) : Box ((w.setCell ⟨k, 0, none⟩ (.int .i64 (hi b))).setCell ⟨k, 1, none⟩ (.int .u64 (lo b))) k b := read2 h.1 h.2 _ _
theorem Box.off {w : World} {k k' : Nat} {a : Int} (h : Box w k a) (hk : k' ≠ k) (u v : Value) : Box ((w.setCell ⟨k', 0, none⟩ u).setCell ⟨k', 1, none⟩ v) k a := by
  have e : ∀ o o', (⟨k', o, none⟩ : Addr) ≠ ⟨k, o', none⟩ := fun _ _ h => hk (congrArg Addr.block h)
  unfold Box
  rw [World.cell?_setCell_other _ _ _ _ (e 1 0), World.cell?_setCell_other _ _ _ _ (e 0 0), World.cell?_setCell_other _ _ _ _ (e 1 1), World.cell?_setCell_other _ _ _ _ (e 0 1)]
  exact h
/-- The block k may be written. -/
def Free (w : World) (k : Nat) : Prop := w.frozen? ⟨k, 0, none⟩ = false ∧ w.frozen? ⟨k, 1, none⟩ = false ∧ k < w.heap.size
theorem Free.new (w : World) (c : Array Value) : Free (w.alloc (.cells c 78)) w.heap.size := ⟨by simp [go_sem], by simp [go_sem], by simp⟩
theorem Free.keeps {w w1 : World} {k : Nat} (h : Free w k) (hb : Go.RowKit.Below w.heap.size w w1) : Free w1 k :=
  ⟨by rw [hb.frozen (p := ⟨k, 0, none⟩) h.2.2]; exact h.1, by rw [hb.frozen (p := ⟨k, 1, none⟩) h.2.2]; exact h.2.1, Nat.lt_of_lt_of_le h.2.2 hb.size⟩
theorem Free.past {w : World} {k : Nat} (h : Free w k) (c : Array Value) (t : TypeId) : Free (w.alloc (.cells c t)) k :=
  h.keeps ((Go.RowKit.Below.refl _ _).alloc (Nat.le_refl _) _)

/-- The block k holds a zero Wide that may be written. -/
def Fresh (w : World) (k : Nat) : Prop := w.cell? ⟨k, 0, none⟩ = some (.int .i64 0) ∧ w.cell? ⟨k, 1, none⟩ = some (.int .u64 0) ∧ Free w k
theorem Fresh.new (w : World) : Fresh (w.alloc (.cells #[.int .i64 0, .int .u64 0] 78)) w.heap.size := ⟨by simp [go_sem], by simp [go_sem], Free.new w _⟩
theorem Fresh.keeps {w w1 : World} {k : Nat} (h : Fresh w k) (hb : Go.RowKit.Below w.heap.size w w1) : Fresh w1 k := ⟨Go.Proofs.YtkfciilclfhabaaGreatDoor.dec.keeps hb h.1, Go.Proofs.YtkfciilclfhabaaGreatDoor.dec.keeps hb h.2.1, h.2.2.keeps hb⟩
theorem Fresh.put {w : World} {k : Nat} (h : Fresh w k) (b : Int) : Box ((w.setCell ⟨k, 0, none⟩ (.int .i64 (hi b))).setCell ⟨k, 1, none⟩ (.int .u64 (lo b))) k b := read2 h.1 h.2.1 _ _
/-- A parameter in memory, and nothing old changed. -/
def StA (w w' : World) (k : Nat) (a : Int) : Prop := Box w' k a ∧ Go.RowKit.Below w.heap.size w w'
theorem StA.out {w w' : World} {k : Nat} {a : Int} (h : StA w w' k a) : w'.cell? ⟨k, 0, none⟩ = some (.int .i64 (hi a)) ∧ w'.cell? ⟨k, 1, none⟩ = some (.int .u64 (lo a)) ∧ Go.RowKit.Below w.heap.size w w' := ⟨h.1.1, h.1.2, h.2⟩
theorem StA.next {w w1 w2 : World} {k : Nat} {a : Int} (h : StA w w1 k a) (hb : Go.RowKit.Below w1.heap.size w1 w2) : StA w w2 k a := ⟨h.1.keeps hb, bnext h.2 hb⟩
theorem StA.alloc {w w1 : World} {k : Nat} {a : Int} (h : StA w w1 k a) (o : Obj) : StA w (w1.alloc o) k a := ⟨h.1.past o, balloc h.2 o⟩
theorem StA.put {w w4 w5 : World} {k : Nat} {a : Int} (h4 : StA w w4 k a) (h : StA w w5 k a) (u v : Value) : StA w ((w5.setCell ⟨w4.heap.size, 0, none⟩ u).setCell ⟨w4.heap.size, 1, none⟩ v) k a :=
  ⟨h.1.off (by have := h4.1.lt; omega) u v, store2 h.2 h4.2.size u v⟩

end Go.Proofs.YtkfciilclfhabaaGreatDoor.dec

namespace Go.Proofs.YtkfciilclfhabaaGreatDoor.dec
open Go.RowKit Go.Shelf

theorem checked_any {a : Int} (ia : In a) (w : World) :
    Calls Tryz.prog 45 #[.agg #[.int .i64 (hi a), .int .u64 (lo a)]] w fun e w' => e = .returned (.tuple #[.int .i64 (kx a), .bool (rg a)]) ∧ Below w.heap.size w w' := by
  have CD := Lib.hid (divide_at (a := a) (d := 1) ia (by decide) (by decide) (dv_one a) (dvOk_one a))
  go_enter Tryz.func45, Tryz.ntmps45
  go_wp2_with (go_at_call 74; refine (CD.out _).mono ?_; rintro e w1 ⟨rfl, hb⟩)
  go_ret2
  exact ⟨rfl, bnext (balloc (b0 w) _) hb⟩

end Go.Proofs.YtkfciilclfhabaaGreatDoor.dec

namespace Go.Proofs.YtkfciilclfhabaaGreatDoor.dec
open Go.RowKit Go.Shelf

theorem refInRange_any (x : Int) (w : World) : Calls Tryz.prog 63 #[.int .i64 x] w fun e w' => e = .returned (.bool (rg x)) ∧ w = w' := by
  by_cases h1 : -1152921504606846976 ≤ x
  · by_cases h2 : x ≤ 1152921504606846976
    · have e : Hid (rg x = true) := (rg_iff x).2 ⟨h1, h2⟩
      have c1 : decide (-1152921504606846976 ≤ x) = true := by simpa using h1
      have c2 : decide (x ≤ 1152921504606846976) = true := by simpa using h2
      go_enter Tryz.func63, Tryz.ntmps63
      go_wp2
      go_ret
      exact ⟨by rw [e.out]; rfl, rfl⟩
    · have e : Hid (rg x = false) := (rg_no x).2 (by omega)
      have c1 : decide (-1152921504606846976 ≤ x) = true := by simpa using h1
      have c2 : decide (x ≤ 1152921504606846976) = false := by simp; omega
      go_enter Tryz.func63, Tryz.ntmps63
      go_wp2
      go_ret
      exact ⟨by rw [e.out]; rfl, rfl⟩
  · have e : Hid (rg x = false) := (rg_no x).2 (by omega)
    have c1 : decide (-1152921504606846976 ≤ x) = false := by simp; omega
    go_enter Tryz.func63, Tryz.ntmps63
    go_wp2
    go_ret
    exact ⟨by rw [e.out]; rfl, rfl⟩

end Go.Proofs.YtkfciilclfhabaaGreatDoor.dec

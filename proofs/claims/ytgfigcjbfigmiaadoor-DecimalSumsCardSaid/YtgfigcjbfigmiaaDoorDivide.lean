/-
  exact.Divide returns the rounded quotient, or nothing.
-/
import Derived.Test.YtgfigcjbfigmiaaDoorDiv
namespace Go.Proofs.YtgfigcjbfigmiaaDoor
open Go.RowKit Go.Shelf

theorem keeps_alloc {w : World} {p : Addr} {v : Value} (o : Obj) (h : w.cell? p = some v) : (w.alloc o).cell? p = some v := by
  rw [World.cell?_alloc_lt _ _ _ (block_lt_of_cell h)]; exact h
theorem below_drewN' {B : Nat} {a w : World} (h : Below B a w) (n : Nat) : Below B a (w.drewN n) := ⟨h.os, h.tape, h.output, h.size, h.block⟩
theorem divide_below {w w1 w2 : World} {o1 o2 : Obj} (o3 : Obj) (hb1 : Below (w.alloc o1).heap.size (w.alloc o1) w1) (hb2 : Below (w1.alloc o2).heap.size (w1.alloc o2) w2) : Below w.heap.size w (w2.alloc o3) := by
  have s1 := hb1.size
  have s2 := hb2.size
  simp only [World.size_alloc] at s1 s2
  have b1 : Below w.heap.size w w1 := ((Below.refl _ _).alloc (Nat.le_refl _) _).trans (hb1.mono (by simp))
  have b2 : Below w.heap.size w w2 := (b1.alloc (by omega) _).trans (hb2.mono (by simp; omega))
  exact b2.alloc (by omega) _

set_option maxHeartbeats 1000000 in
/-- exact.Divide. -/
theorem divide_any {y : Value} {a : Int} (d : Int) (hx : y = W a) (ia : In a) (w : World) (d1 : -9223372036854775808 ≤ d) (d2 : d ≤ 9223372036854775807) :
    Calls Tryd.prog 31 #[y, .int .i64 d] w fun e w' => e = .returned (.tuple #[.int .i64 (dv a d), .bool (dvOk a d)]) ∧ Below w.heap.size w w' := by
  subst hx
  obtain ⟨A, D, ah, al, q, r, x, h⟩ : ∃ A D ah al q r x, Dv a d A D ah al q r x := ⟨_, _, _, _, _, _, _, rfl, rfl, rfl, rfl, rfl, rfl, rfl⟩
  have id : In d := by unfold In; omega
  have sa := hi_neg ia
  have rA := ab_nonneg a
  have rD := ab_nonneg d
  have rD' : ab d ≤ 9223372036854775808 := by unfold ab; split <;> omega
  have rA' : ab a ≤ 170141183460469231731687303715884105728 := by unfold In at ia; unfold ab; split <;> omega
  have cA := size_any (a := a) rfl ia
  have cD := size_any (a := d) rfl id
  rw [h.A0, h.eah, h.eal] at cA
  rw [h.D0] at cD rD rD'
  rw [h.A0] at rA rA'
  have eD : D % 18446744073709551616 = D := by omega
  rw [eD] at cD
  have bh1 : 0 ≤ ah := by have := h.eah; omega
  have bl1 : 0 ≤ al := by have := h.eal; omega
  have bl2 : al ≤ 18446744073709551615 := by have := h.eal; omega
  have CA := Lib.hid cA
  have CD := Lib.hid cD
  clear cA cD eD
  have i0 : ∀ w, (Instr.index 50 (.agg #[.int .u64 D, .int .u64 (D / 18446744073709551616)]) (.int .i64 0)).run Tryd.prog w = .ok (.int .u64 D) w := fun _ => by kernel_rfl
  unfold W
  by_cases c1 : D ≤ ah
  · have R1 := Lib.hid (h.none1 c1)
    have R2 := Lib.hid (dv_no R1.out)
    clear h
    go_enter Tryd.func31, Tryd.ntmps31
    go_wp2_with fail
    refine (CA.out _).mono ?_
    rintro e w1 ⟨rfl, hb1⟩
    obtain ⟨hc1, hf1, hs1⟩ := bfacts hb1
    go_wp2_with fail
    refine (of_any _ _ d1 d2).mono ?_
    rintro e w' ⟨rfl, k1, rfl⟩
    go_wp2_with fail
    refine (CD.out _).mono ?_
    rintro e w2 ⟨rfl, hb2⟩
    obtain ⟨hc2, hf2, hs2⟩ := bfacts hb2
    go_wp2_with fail
    go_ret2
    exact ⟨by rw [R1.out, R2.out]; rfl, divide_below _ hb1 hb2⟩
  · have q0 : 0 ≤ q := by rw [h.eq]; exact Int.ediv_nonneg rA rD
    have q1 : q ≤ 18446744073709551615 := by
      have : q < 18446744073709551616 := by rw [h.eq, Int.ediv_lt_iff_lt_mul (by omega)]; have := h.eah; omega
      omega
    have r0 : 0 ≤ r := by rw [h.er]; exact Int.emod_nonneg _ (by omega)
    have r1 : r < D := by rw [h.er]; exact Int.emod_lt_of_pos _ (by omega)
    obtain ⟨x0, x1⟩ := ru_range q r D
    rw [← h.ex] at x0 x1
    have eA : ah * 18446744073709551616 + al = A := by have := h.eah; have := h.eal; omega
    have CV : Hid (∀ w, Calls Tryd.prog 44 #[.int .u64 ah, .int .u64 al, .int .u64 D] w fun e w' => e = .returned (.tuple #[.int .u64 q, .int .u64 r]) ∧ ∃ n, w' = w.drewN n) := by
      intro w
      have := div64_any ah al D w bh1 (by omega) (by omega) bl1 bl2
      rw [eA, ← h.eq, ← h.er] at this
      exact this
    have CR : Hid (∀ w, Calls Tryd.prog 45 #[.int .u64 q, .int .u64 r, .int .u64 D] w fun e w' => e = .returned (.int .u64 x) ∧ w = w') := by
      intro w
      have := roundUp_any q r D w q0 r0 r1 (by omega)
      rw [← h.ex] at this
      exact this
    clear eA
    have R3 := Lib.hid (fun g => h.none3 g)
    have R2 := Lib.hid (fun g => h.none2 g)
    have R4 := Lib.hid (fun g => h.some (by omega) g)
    have R5 := Lib.hid h.sq
    clear h
    by_cases c2 : 1152921504606846976 < q
    · have R1 := Lib.hid (R3.out c2)
      have R2 := Lib.hid (dv_no R1.out)
      go_enter Tryd.func31, Tryd.ntmps31
      go_wp2_with fail
      refine (CA.out _).mono ?_
      rintro e w1 ⟨rfl, hb1⟩
      obtain ⟨hc1, hf1, hs1⟩ := bfacts hb1
      go_wp2_with fail
      refine (of_any _ _ d1 d2).mono ?_
      rintro e w' ⟨rfl, k1, rfl⟩
      go_wp2_with fail
      refine (CD.out _).mono ?_
      rintro e w2 ⟨rfl, hb2⟩
      obtain ⟨hc2, hf2, hs2⟩ := bfacts hb2
      go_wp2_with fail
      refine (CV.out _).mono ?_
      rintro e w' ⟨rfl, n, rfl⟩
      go_wp2_with fail
      go_ret2
      exact ⟨by rw [R1.out, R2.out]; rfl, below_drewN' (divide_below _ hb1 hb2) _⟩
    · by_cases c3 : 1152921504606846976 < q + x
      · have R1 := Lib.hid (R2.out c3)
        have R2 := Lib.hid (dv_no R1.out)
        go_enter Tryd.func31, Tryd.ntmps31
        go_wp2_with fail
        refine (CA.out _).mono ?_
        rintro e w1 ⟨rfl, hb1⟩
        obtain ⟨hc1, hf1, hs1⟩ := bfacts hb1
        go_wp2_with fail
        refine (of_any _ _ d1 d2).mono ?_
        rintro e w' ⟨rfl, k1, rfl⟩
        go_wp2_with fail
        refine (CD.out _).mono ?_
        rintro e w2 ⟨rfl, hb2⟩
        obtain ⟨hc2, hf2, hs2⟩ := bfacts hb2
        go_wp2_with fail
        refine (CV.out _).mono ?_
        rintro e w' ⟨rfl, n, rfl⟩
        go_wp2_with fail
        refine (CR.out _).mono ?_
        rintro e w' ⟨rfl, rfl⟩
        go_wp2_with fail
        go_ret2
        exact ⟨by rw [R1.out, R2.out]; rfl, below_drewN' (divide_below _ hb1 hb2) _⟩
      · have R1 := Lib.hid (R4.out (by omega))
        have R6 := Lib.hid (dv_yes R1.out)
        by_cases s1 : a < 0
        · have s1' : hi a < 0 := sa.2 s1
          have s1'' : decide (hi a < 0) = true := by simp; omega
          clear sa
          by_cases s2 : d < 0
          · have s2' : decide (d < 0) = true := by simp; omega
            have R7 : Hid (sq a d = q + x) := by unfold Hid; rw [R5.out, if_neg (by omega)]
            go_enter Tryd.func31, Tryd.ntmps31
            go_wp2_with fail
            refine (CA.out _).mono ?_
            rintro e w1 ⟨rfl, hb1⟩
            have f1 := keeps hb1 (k := w.heap.size) (o := 0) (v := .int .i64 (hi a)) (by simp [go_sem])
            go_wp2_with fail
            refine (of_any _ _ d1 d2).mono ?_
            rintro e w' ⟨rfl, k1, rfl⟩
            go_wp2_with fail
            refine (CD.out _).mono ?_
            rintro e w2 ⟨rfl, hb2⟩
            have f2 := keeps hb2 (keeps_alloc _ f1)
            have z2 : w.heap.size < w2.heap.size := block_lt_of_cell f2
            go_wp2_with fail
            refine (CV.out _).mono ?_
            rintro e w' ⟨rfl, n, rfl⟩
            go_wp2_with fail
            refine (CR.out _).mono ?_
            rintro e w' ⟨rfl, rfl⟩
            go_wp2_with fail
            go_ret2
            exact ⟨by rw [R1.out, R6.out, R7.out]; rfl, below_drewN' (divide_below _ hb1 hb2) _⟩
          · have s2' : decide (d < 0) = false := by simp; omega
            have R7 : Hid (sq a d = -(q + x)) := by unfold Hid; rw [R5.out, if_pos (by omega)]
            go_enter Tryd.func31, Tryd.ntmps31
            go_wp2_with fail
            refine (CA.out _).mono ?_
            rintro e w1 ⟨rfl, hb1⟩
            have f1 := keeps hb1 (k := w.heap.size) (o := 0) (v := .int .i64 (hi a)) (by simp [go_sem])
            go_wp2_with fail
            refine (of_any _ _ d1 d2).mono ?_
            rintro e w' ⟨rfl, k1, rfl⟩
            go_wp2_with fail
            refine (CD.out _).mono ?_
            rintro e w2 ⟨rfl, hb2⟩
            have f2 := keeps hb2 (keeps_alloc _ f1)
            have z2 : w.heap.size < w2.heap.size := block_lt_of_cell f2
            go_wp2_with fail
            refine (CV.out _).mono ?_
            rintro e w' ⟨rfl, n, rfl⟩
            go_wp2_with fail
            refine (CR.out _).mono ?_
            rintro e w' ⟨rfl, rfl⟩
            go_wp2_with fail
            go_ret2
            exact ⟨by rw [R1.out, R6.out, R7.out]; rfl, below_drewN' (divide_below _ hb1 hb2) _⟩
        · have s1' : ¬ hi a < 0 := by omega
          have s1'' : decide (hi a < 0) = false := by simp; omega
          clear sa
          by_cases s2 : d < 0
          · have s2' : decide (d < 0) = true := by simp; omega
            have R7 : Hid (sq a d = -(q + x)) := by unfold Hid; rw [R5.out, if_pos (by omega)]
            go_enter Tryd.func31, Tryd.ntmps31
            go_wp2_with fail
            refine (CA.out _).mono ?_
            rintro e w1 ⟨rfl, hb1⟩
            have f1 := keeps hb1 (k := w.heap.size) (o := 0) (v := .int .i64 (hi a)) (by simp [go_sem])
            go_wp2_with fail
            refine (of_any _ _ d1 d2).mono ?_
            rintro e w' ⟨rfl, k1, rfl⟩
            go_wp2_with fail
            refine (CD.out _).mono ?_
            rintro e w2 ⟨rfl, hb2⟩
            have f2 := keeps hb2 (keeps_alloc _ f1)
            have z2 : w.heap.size < w2.heap.size := block_lt_of_cell f2
            go_wp2_with fail
            refine (CV.out _).mono ?_
            rintro e w' ⟨rfl, n, rfl⟩
            go_wp2_with fail
            refine (CR.out _).mono ?_
            rintro e w' ⟨rfl, rfl⟩
            go_wp2_with fail
            go_ret2
            exact ⟨by rw [R1.out, R6.out, R7.out]; rfl, below_drewN' (divide_below _ hb1 hb2) _⟩
          · have s2' : decide (d < 0) = false := by simp; omega
            have R7 : Hid (sq a d = q + x) := by unfold Hid; rw [R5.out, if_neg (by omega)]
            go_enter Tryd.func31, Tryd.ntmps31
            go_wp2_with fail
            refine (CA.out _).mono ?_
            rintro e w1 ⟨rfl, hb1⟩
            have f1 := keeps hb1 (k := w.heap.size) (o := 0) (v := .int .i64 (hi a)) (by simp [go_sem])
            go_wp2_with fail
            refine (of_any _ _ d1 d2).mono ?_
            rintro e w' ⟨rfl, k1, rfl⟩
            go_wp2_with fail
            refine (CD.out _).mono ?_
            rintro e w2 ⟨rfl, hb2⟩
            have f2 := keeps hb2 (keeps_alloc _ f1)
            have z2 : w.heap.size < w2.heap.size := block_lt_of_cell f2
            go_wp2_with fail
            refine (CV.out _).mono ?_
            rintro e w' ⟨rfl, n, rfl⟩
            go_wp2_with fail
            refine (CR.out _).mono ?_
            rintro e w' ⟨rfl, rfl⟩
            go_wp2_with fail
            go_ret2
            exact ⟨by rw [R1.out, R6.out, R7.out]; rfl, below_drewN' (divide_below _ hb1 hb2) _⟩
end Go.Proofs.YtgfigcjbfigmiaaDoor

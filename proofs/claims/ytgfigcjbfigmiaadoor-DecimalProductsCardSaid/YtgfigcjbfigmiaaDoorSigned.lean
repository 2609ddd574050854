/-
  The reference's Mul and Div.
-/
import Derived.Test.YtgfigcjbfigmiaaDoorQuo
namespace Go.Proofs.YtgfigcjbfigmiaaDoor
open Go.RowKit Go.Shelf

theorem ab_ab (a : Int) : ab (ab a) = ab a := by have := ab_nonneg a; exact ab_pos (by omega)
theorem quo_abs (a b d : Int) : quo (ab a * ab b) (ab d) = quo (a * b) d := by
  have h1 : ab (ab a * ab b) = ab (a * b) := by rw [ab_mul, ab_mul, ab_ab, ab_ab]
  unfold quo
  rw [h1, ab_ab]
theorem quo_nonneg (a d : Int) : 0 ≤ quo a d := by
  unfold quo
  have := ru_range (ab a / ab d) (ab a % ab d) (ab d)
  have := Int.ediv_nonneg (ab_nonneg a) (ab_nonneg d)
  omega
theorem ok_quo {a d : Int} (hd : d ≠ 0) : dvOk a d = rg (quo a d) := by
  have := quo_nonneg a d
  unfold dvOk rg
  congr 1
  rw [eq_iff_iff]
  constructor
  · intro h; exact ⟨by omega, h.2⟩
  · intro h; exact ⟨hd, h.2⟩
theorem kx_range (x : Int) : -1152921504606846976 ≤ kx x ∧ kx x ≤ 1152921504606846976 := by
  cases h : rg x
  · rw [kx_no h]; omega
  · rw [kx_yes h]; exact (rg_iff x).1 h
theorem dv_plus {a b d : Int} (hd : d ≠ 0) (h : a * b = 0 ∨ ¬ ((a * b < 0 ∧ 0 ≤ d) ∨ (0 ≤ a * b ∧ d < 0))) : dv (a * b) d = kx (quo (a * b) d) := by
  rcases h with h | h
  · rw [h, dv_zero, quo_zero]; rfl
  · cases hr : rg (quo (a * b) d)
    · rw [kx_no hr, no_result ((ok_quo hd).trans hr)]
    · rw [kx_yes hr, dv_yes ((ok_quo hd).trans hr)]; unfold sq; rw [if_neg h]
theorem dv_minus {a b d : Int} (hd : d ≠ 0) (h : a * b = 0 ∨ ((a * b < 0 ∧ 0 ≤ d) ∨ (0 ≤ a * b ∧ d < 0))) : dv (a * b) d = -kx (quo (a * b) d) := by
  rcases h with h | h
  · rw [h, dv_zero, quo_zero]; rfl
  · cases hr : rg (quo (a * b) d)
    · rw [kx_no hr, no_result ((ok_quo hd).trans hr)]; rfl
    · rw [kx_yes hr, dv_yes ((ok_quo hd).trans hr)]; unfold sq; rw [if_pos h]
theorem sg_nn {a b : Int} (ha : a < 0) (hb : b < 0) : 0 < a * b := Int.mul_pos_of_neg_of_neg ha hb
theorem sg_np {a b : Int} (ha : a < 0) (hb : 0 ≤ b) : a * b ≤ 0 := by have := Int.mul_nonneg (show 0 ≤ -a by omega) hb; rw [Int.neg_mul] at this; omega
theorem sg_pn {a b : Int} (ha : 0 ≤ a) (hb : b < 0) : a * b ≤ 0 := by rw [Int.mul_comm]; exact sg_np hb ha
theorem sg_pp {a b : Int} (ha : 0 ≤ a) (hb : 0 ≤ b) : 0 ≤ a * b := Int.mul_nonneg ha hb

theorem refSize_any (n : Int) (w : World) (h : rg n = true) : Calls Tryd.prog 49 #[.int .i64 n] w fun e w' => e = .returned (.int .i64 (ab n)) ∧ w = w' := by
  obtain ⟨h1, h2⟩ := (rg_iff n).1 h
  by_cases g : n < 0
  · have E := Lib.hid (ab_neg g)
    go_enter Tryd.func49, Tryd.ntmps49
    go_wp2
    go_ret
    exact ⟨by rw [E.out]; rfl, rfl⟩
  · have E := Lib.hid (ab_pos (show 0 ≤ n by omega))
    go_enter Tryd.func49, Tryd.ntmps49
    go_wp2
    go_ret
    exact ⟨by rw [E.out]; rfl, rfl⟩

set_option maxHeartbeats 1000000 in
theorem refSigned_any (a b d : Int) (w : World) (ra : rg a = true) (rb : rg b = true) (rd : rg d = true) (hd : d ≠ 0) :
    Calls Tryd.prog 37 #[.int .i64 a, .int .i64 b, .int .i64 d] w fun e w' => e = .returned (.tuple #[.int .i64 (dv (a * b) d), .bool (dvOk (a * b) d)]) ∧ w = w' := by
  obtain ⟨a1, a2⟩ := (rg_iff a).1 ra
  obtain ⟨b1, b2⟩ := (rg_iff b).1 rb
  obtain ⟨d1, d2⟩ := (rg_iff d).1 rd
  have hok := ok_quo (a := a * b) hd
  have CA := Lib.hid (fun w => refSize_any a w ra)
  have CB := Lib.hid (fun w => refSize_any b w rb)
  have CD := Lib.hid (fun w => refSize_any d w rd)
  have pa := ab_nonneg a
  have pb := ab_nonneg b
  have pd := ab_nonneg d
  have qa : ab a ≤ 1152921504606846976 := by unfold ab; split <;> omega
  have qb : ab b ≤ 1152921504606846976 := by unfold ab; split <;> omega
  have qd : ab d ≤ 1152921504606846976 := by unfold ab; split <;> omega
  have pd1 : 1 ≤ ab d := by unfold ab; split <;> omega
  have CQ := Lib.hid (fun w => quotient_any (ab a) (ab b) (ab d) w pa qa pb qb pd1 qd)
  have HQ := quo_abs a b d
  have kr := kx_range (quo (a * b) d)
  have hp := fun h => dv_plus (a := a) (b := b) hd h
  have hm := fun h => dv_minus (a := a) (b := b) hd h
  have snn := fun h h' => sg_nn (a := a) (b := b) h h'
  have snp := fun h h' => sg_np (a := a) (b := b) h h'
  have spn := fun h h' => sg_pn (a := a) (b := b) h h'
  have spp := fun h h' => sg_pp (a := a) (b := b) h h'
  rw [HQ] at CQ
  generalize dv (a * b) d = V at *
  rw [hok]
  generalize rg (quo (a * b) d) = K at *
  generalize kx (quo (a * b) d) = x at *
  generalize ab a = A at *
  generalize ab b = B at *
  generalize ab d = D at *
  generalize a * b = N at *
  obtain ⟨x1, x2⟩ := kr
  by_cases ga : a < 0
  · by_cases gb : b < 0
    · by_cases gd : d < 0
      · have hN := snn ga gb
        have E : Hid (V = -x) := hm (by omega)
        have ta : decide (a < 0) = true := by simpa using ga
        have tb : decide (b < 0) = true := by simpa using gb
        have td : decide (d < 0) = true := by simpa using gd
        clear hN snn snp spn spp hp hm hok HQ
        go_enter Tryd.func37, Tryd.ntmps37
        go_wp2_with fail
        refine (CA.out _).mono ?_
        rintro e w1 ⟨rfl, rfl⟩
        go_wp2_with fail
        refine (CB.out _).mono ?_
        rintro e w1 ⟨rfl, rfl⟩
        go_wp2_with fail
        refine (CD.out _).mono ?_
        rintro e w1 ⟨rfl, rfl⟩
        go_wp2_with fail
        refine (CQ.out _).mono ?_
        rintro e w1 ⟨rfl, rfl⟩
        go_wp2_with fail
        go_ret2
        exact ⟨by rw [E.out]; rfl, rfl⟩
      · have hN := snn ga gb
        have E : Hid (V = x) := hp (by omega)
        have ta : decide (a < 0) = true := by simpa using ga
        have tb : decide (b < 0) = true := by simpa using gb
        have td : decide (d < 0) = false := by simp; omega
        clear hN snn snp spn spp hp hm hok HQ
        go_enter Tryd.func37, Tryd.ntmps37
        go_wp2_with fail
        refine (CA.out _).mono ?_
        rintro e w1 ⟨rfl, rfl⟩
        go_wp2_with fail
        refine (CB.out _).mono ?_
        rintro e w1 ⟨rfl, rfl⟩
        go_wp2_with fail
        refine (CD.out _).mono ?_
        rintro e w1 ⟨rfl, rfl⟩
        go_wp2_with fail
        refine (CQ.out _).mono ?_
        rintro e w1 ⟨rfl, rfl⟩
        go_wp2_with fail
        go_ret2
        exact ⟨by rw [E.out]; rfl, rfl⟩
    · by_cases gd : d < 0
      · have hN := snp ga (by omega)
        have E : Hid (V = x) := hp (by omega)
        have ta : decide (a < 0) = true := by simpa using ga
        have tb : decide (b < 0) = false := by simp; omega
        have td : decide (d < 0) = true := by simpa using gd
        clear hN snn snp spn spp hp hm hok HQ
        go_enter Tryd.func37, Tryd.ntmps37
        go_wp2_with fail
        refine (CA.out _).mono ?_
        rintro e w1 ⟨rfl, rfl⟩
        go_wp2_with fail
        refine (CB.out _).mono ?_
        rintro e w1 ⟨rfl, rfl⟩
        go_wp2_with fail
        refine (CD.out _).mono ?_
        rintro e w1 ⟨rfl, rfl⟩
        go_wp2_with fail
        refine (CQ.out _).mono ?_
        rintro e w1 ⟨rfl, rfl⟩
        go_wp2_with fail
        go_ret2
        exact ⟨by rw [E.out]; rfl, rfl⟩
      · have hN := snp ga (by omega)
        have E : Hid (V = -x) := hm (by omega)
        have ta : decide (a < 0) = true := by simpa using ga
        have tb : decide (b < 0) = false := by simp; omega
        have td : decide (d < 0) = false := by simp; omega
        clear hN snn snp spn spp hp hm hok HQ
        go_enter Tryd.func37, Tryd.ntmps37
        go_wp2_with fail
        refine (CA.out _).mono ?_
        rintro e w1 ⟨rfl, rfl⟩
        go_wp2_with fail
        refine (CB.out _).mono ?_
        rintro e w1 ⟨rfl, rfl⟩
        go_wp2_with fail
        refine (CD.out _).mono ?_
        rintro e w1 ⟨rfl, rfl⟩
        go_wp2_with fail
        refine (CQ.out _).mono ?_
        rintro e w1 ⟨rfl, rfl⟩
        go_wp2_with fail
        go_ret2
        exact ⟨by rw [E.out]; rfl, rfl⟩
  · by_cases gb : b < 0
    · by_cases gd : d < 0
      · have hN := spn (by omega) gb
        have E : Hid (V = x) := hp (by omega)
        have ta : decide (a < 0) = false := by simp; omega
        have tb : decide (b < 0) = true := by simpa using gb
        have td : decide (d < 0) = true := by simpa using gd
        clear hN snn snp spn spp hp hm hok HQ
        go_enter Tryd.func37, Tryd.ntmps37
        go_wp2_with fail
        refine (CA.out _).mono ?_
        rintro e w1 ⟨rfl, rfl⟩
        go_wp2_with fail
        refine (CB.out _).mono ?_
        rintro e w1 ⟨rfl, rfl⟩
        go_wp2_with fail
        refine (CD.out _).mono ?_
        rintro e w1 ⟨rfl, rfl⟩
        go_wp2_with fail
        refine (CQ.out _).mono ?_
        rintro e w1 ⟨rfl, rfl⟩
        go_wp2_with fail
        go_ret2
        exact ⟨by rw [E.out]; rfl, rfl⟩
      · have hN := spn (by omega) gb
        have E : Hid (V = -x) := hm (by omega)
        have ta : decide (a < 0) = false := by simp; omega
        have tb : decide (b < 0) = true := by simpa using gb
        have td : decide (d < 0) = false := by simp; omega
        clear hN snn snp spn spp hp hm hok HQ
        go_enter Tryd.func37, Tryd.ntmps37
        go_wp2_with fail
        refine (CA.out _).mono ?_
        rintro e w1 ⟨rfl, rfl⟩
        go_wp2_with fail
        refine (CB.out _).mono ?_
        rintro e w1 ⟨rfl, rfl⟩
        go_wp2_with fail
        refine (CD.out _).mono ?_
        rintro e w1 ⟨rfl, rfl⟩
        go_wp2_with fail
        refine (CQ.out _).mono ?_
        rintro e w1 ⟨rfl, rfl⟩
        go_wp2_with fail
        go_ret2
        exact ⟨by rw [E.out]; rfl, rfl⟩
    · by_cases gd : d < 0
      · have hN := spp (by omega) (by omega)
        have E : Hid (V = -x) := hm (by omega)
        have ta : decide (a < 0) = false := by simp; omega
        have tb : decide (b < 0) = false := by simp; omega
        have td : decide (d < 0) = true := by simpa using gd
        clear hN snn snp spn spp hp hm hok HQ
        go_enter Tryd.func37, Tryd.ntmps37
        go_wp2_with fail
        refine (CA.out _).mono ?_
        rintro e w1 ⟨rfl, rfl⟩
        go_wp2_with fail
        refine (CB.out _).mono ?_
        rintro e w1 ⟨rfl, rfl⟩
        go_wp2_with fail
        refine (CD.out _).mono ?_
        rintro e w1 ⟨rfl, rfl⟩
        go_wp2_with fail
        refine (CQ.out _).mono ?_
        rintro e w1 ⟨rfl, rfl⟩
        go_wp2_with fail
        go_ret2
        exact ⟨by rw [E.out]; rfl, rfl⟩
      · have hN := spp (by omega) (by omega)
        have E : Hid (V = x) := hp (by omega)
        have ta : decide (a < 0) = false := by simp; omega
        have tb : decide (b < 0) = false := by simp; omega
        have td : decide (d < 0) = false := by simp; omega
        clear hN snn snp spn spp hp hm hok HQ
        go_enter Tryd.func37, Tryd.ntmps37
        go_wp2_with fail
        refine (CA.out _).mono ?_
        rintro e w1 ⟨rfl, rfl⟩
        go_wp2_with fail
        refine (CB.out _).mono ?_
        rintro e w1 ⟨rfl, rfl⟩
        go_wp2_with fail
        refine (CD.out _).mono ?_
        rintro e w1 ⟨rfl, rfl⟩
        go_wp2_with fail
        refine (CQ.out _).mono ?_
        rintro e w1 ⟨rfl, rfl⟩
        go_wp2_with fail
        go_ret2
        exact ⟨by rw [E.out]; rfl, rfl⟩

theorem refMul_any (a b : Int) (w : World) :
    Calls Tryd.prog 21 #[.int .i64 a, .int .i64 b] w fun e w' => e = .returned (.tuple #[.int .i64 (muX a b), .bool (muK a b)]) ∧ w = w' := by
  cases ha : rg a
  · obtain ⟨_, _, e1, _, _, _, e5, _⟩ := out_all (a := a) (b := b) (.inl ha)
    have E1 := Lib.hid e1; have E5 := Lib.hid e5
    clear e1 e5
    go_enter Tryd.func21, Tryd.ntmps21
    go_wp2_with (go_at_call 34; refine (refInRange_any _ _).mono ?_; rw [ha]; rintro e w1 ⟨rfl, rfl⟩)
    go_ret2
    exact ⟨by rw [E1.out, E5.out]; rfl, rfl⟩
  · cases hb : rg b
    · obtain ⟨_, _, e1, _, _, _, e5, _⟩ := out_all (a := a) (b := b) (.inr hb)
      have E1 := Lib.hid e1; have E5 := Lib.hid e5
      clear e1 e5
      go_enter Tryd.func21, Tryd.ntmps21
      go_wp2_with (go_at_call 34; refine (refInRange_any _ _).mono ?_; (first | rw [ha] | rw [hb]); rintro e w1 ⟨rfl, rfl⟩)
      go_ret2
      exact ⟨by rw [E1.out, E5.out]; rfl, rfl⟩
    · have E1 := Lib.hid (muK_in ha hb); have E5 := Lib.hid (muX_in ha hb)
      have CS := Lib.hid (fun w => refSigned_any a b 1000000 w ha hb rfl (by decide))
      go_enter Tryd.func21, Tryd.ntmps21
      go_wp2_with (go_at_call 34; refine (refInRange_any _ _).mono ?_; (first | rw [ha] | rw [hb]); rintro e w1 ⟨rfl, rfl⟩)
      refine (CS.out _).mono ?_
      rintro e w1 ⟨rfl, rfl⟩
      go_wp2_with fail
      go_ret2
      exact ⟨by rw [E1.out, E5.out]; rfl, rfl⟩

theorem refDiv_any (a b : Int) (w : World) :
    Calls Tryd.prog 23 #[.int .i64 a, .int .i64 b] w fun e w' => e = .returned (.tuple #[.int .i64 (diX a b), .bool (diK a b)]) ∧ w = w' := by
  cases ha : rg a
  · obtain ⟨_, _, _, e1, _, _, _, e5⟩ := out_all (a := a) (b := b) (.inl ha)
    have E1 := Lib.hid e1; have E5 := Lib.hid e5
    clear e1 e5
    go_enter Tryd.func23, Tryd.ntmps23
    go_wp2_with (go_at_call 34; refine (refInRange_any _ _).mono ?_; rw [ha]; rintro e w1 ⟨rfl, rfl⟩)
    go_ret2
    exact ⟨by rw [E1.out, E5.out]; rfl, rfl⟩
  · cases hb : rg b
    · obtain ⟨_, _, _, e1, _, _, _, e5⟩ := out_all (a := a) (b := b) (.inr hb)
      have E1 := Lib.hid e1; have E5 := Lib.hid e5
      clear e1 e5
      go_enter Tryd.func23, Tryd.ntmps23
      go_wp2_with (go_at_call 34; refine (refInRange_any _ _).mono ?_; (first | rw [ha] | rw [hb]); rintro e w1 ⟨rfl, rfl⟩)
      go_ret2
      exact ⟨by rw [E1.out, E5.out]; rfl, rfl⟩
    · have E1 := Lib.hid (diK_in ha hb); have E5 := Lib.hid (diX_in ha hb)
      by_cases hz : b = 0
      · subst hz
        have n1 : dvOk (a * 1000000) 0 = false := by unfold dvOk; simp
        have F1 : Hid (diK a 0 = false) := by unfold Hid; rw [E1.out, n1]
        have F5 : Hid (diX a 0 = 0) := by unfold Hid; rw [E5.out, no_result n1]
        clear n1 E1 E5
        go_enter Tryd.func23, Tryd.ntmps23
        go_wp2_with (go_at_call 34; refine (refInRange_any _ _).mono ?_; (first | rw [ha] | rw [hb]); rintro e w1 ⟨rfl, rfl⟩)
        go_ret2
        exact ⟨by rw [F1.out, F5.out]; rfl, rfl⟩
      · have hz' : (b == 0) = false := by rw [beq_eq_false_iff_ne]; exact hz
        have CS := Lib.hid (fun w => refSigned_any a 1000000 b w ha rfl hb hz)
        go_enter Tryd.func23, Tryd.ntmps23
        go_wp2_with (go_at_call 34; refine (refInRange_any _ _).mono ?_; (first | rw [ha] | rw [hb]); rintro e w1 ⟨rfl, rfl⟩)
        refine (CS.out _).mono ?_
        rintro e w1 ⟨rfl, rfl⟩
        go_wp2_with fail
        go_ret2
        exact ⟨by rw [E1.out, E5.out]; rfl, rfl⟩
end Go.Proofs.YtgfigcjbfigmiaaDoor

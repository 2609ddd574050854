/-
  The statement ExactLimit holds for every Wide and every int.
-/
import Derived.Test.YtdppmppipbbepaaLift
namespace Go.Proofs.Ytdppmppipbbepaa.limitLaw
open Go.ChangeShapes Go.WideShapes Go.ChangeAt Go.RowKit Go.Joins Go.Sort

/-- A number that is too great for a result. -/
theorem too_great {a d : Int} (ia : In a) (d1 : -9223372036854775808 ≤ d) (d2 : d ≤ 9223372036854775807) (h : d = 0 ∨ 4611686018427387904 ≤ hi a ∨ hi a < -4611686018427387904) : dvOk a d = false := by
  by_cases hd : d = 0
  · unfold dvOk; simp [hd]
  · have h' : ¬ dvOk a d = true := by
      rw [limit hd]
      have : ab d ≤ 9223372036854775808 := by unfold ab; split <;> omega
      have : 85070591730234615865843651857942052864 ≤ ab a := by unfold In at ia; unfold hi at h; unfold ab; split <;> omega
      omega
    simpa using h'
theorem cmp_le (x y : Int) : cmp x y ≤ 0 ↔ x ≤ y := by
  have := cmp_cases x y
  omega
theorem fits {a d : Int} (ia : In a) (d1 : -9223372036854775808 ≤ d) (d2 : d ≤ 9223372036854775807) (h1 : hi a < 4611686018427387904) (h2 : -4611686018427387904 ≤ hi a) :
    In (ab d) ∧ In (ab d * 2305843009213693953) ∧ In d ∧ 0 ≤ ab a + ab a ∧ ab a + ab a ≤ 170141183460469231731687303715884105728 ∧ (ab a + ab a = 170141183460469231731687303715884105728 → dvOk a d = false) := by
  have : ab d ≤ 9223372036854775808 := by unfold ab; split <;> omega
  have := ab_nonneg d
  have := ab_nonneg a
  have : ab a ≤ 85070591730234615865843651857942052864 := by unfold In at ia; unfold hi at h1 h2; unfold ab; split <;> omega
  refine ⟨by unfold In; omega, by unfold In; omega, by unfold In; omega, by omega, by omega, fun h => ?_⟩
  by_cases hd : d = 0
  · unfold dvOk; simp [hd]
  · have h' : ¬ dvOk a d = true := by
      rw [limit hd]
      omega
    simpa using h'
theorem hi_sign {n : Int} (h0 : 0 ≤ n) (h1 : n ≤ 170141183460469231731687303715884105728) : 0 ≤ hi n ↔ n < 170141183460469231731687303715884105728 := by unfold hi; omega

set_option maxRecDepth 100000 in
set_option maxHeartbeats 4000000 in
theorem walk {x0 : Value} {a : Int} (e0 : x0 = W a) (ia : In a) (d : Int) (d1 : -9223372036854775808 ≤ d) (d2 : d ≤ 9223372036854775807) (w : World) :
    Calls Try.prog 11 #[x0, .int .i64 d] w fun e w' => e = .returned (.bool true) ∧ Below w.heap.size w w' := by
  subst e0
  by_cases h : d = 0 ∨ 4611686018427387904 ≤ hi a ∨ hi a < -4611686018427387904
  · have hn := too_great ia d1 d2 h
    have CD := Lib.hid (divide_at ia d1 d2 (no_result hn) hn)
    clear hn
    unfold W
    go_enter Try.func11, Try.ntmps11
    go_wp2_with fail
    refine (example_any _).mono ?_
    rintro e w1 ⟨rfl, hb⟩
    have A := (Box.new w a).keeps hb
    have k1 := bnext (balloc (b0 w) _) hb
    clear hb
    have ⟨A0, A1⟩ := A
    go_wp2_with fail
    refine (CD.out _).mono ?_
    rintro e w2 ⟨rfl, hb⟩
    clear A0 A1
    replace A := A.keeps hb
    have k2 := bnext k1 hb
    clear hb k1
    have ⟨A0, A1⟩ := A
    go_wp2
    all_goals (go_ret; exact ⟨rfl, k2⟩)
  · have h0 : (d == 0) = false := by rw [beq_eq_false_iff_ne]; omega
    have h1 : hi a < 4611686018427387904 := by omega
    have h2 : -4611686018427387904 ≤ hi a := by omega
    have hl := limit (a := a) (d := d) (by omega)
    obtain ⟨f1, f2, f3, f4, f5, f6⟩ := fits ia d1 d2 h1 h2
    have hs := hi_sign f4 f5
    have CD := Lib.hid (divide_at ia d1 d2 (r := dv a d) (b := dvOk a d) rfl rfl)
    have HL := Lib.hid hl
    have HS := Lib.hid hs
    have H6 := Lib.hid f6
    clear hl hs f6 h
    unfold W
    go_enter Try.func11, Try.ntmps11
    go_wp2_with fail
    refine (example_any _).mono ?_
    rintro e w1 ⟨rfl, hb⟩
    have A := (Box.new w a).keeps hb
    have k1 := bnext (balloc (b0 w) _) hb
    clear hb
    have ⟨A0, A1⟩ := A
    go_wp2_with fail
    refine (CD.out _).mono ?_
    rintro e w2 ⟨rfl, hb⟩
    clear A0 A1
    replace A := A.keeps hb
    have k2 := bnext k1 hb
    clear hb k1
    have ⟨A0, A1⟩ := A
    go_wp2_with fail
    refine (of_u d _ d1 d2).mono ?_
    rintro e w3 ⟨rfl, hb⟩
    clear A0 A1
    replace A := A.keeps hb
    have k3 := bnext k2 hb
    clear hb k2
    go_wp2_with fail
    refine (absolute_u f3 _).mono ?_
    rintro e w4 ⟨rfl, hb⟩
    replace A := A.keeps hb
    have k4 := bnext k3 hb
    clear hb k3
    replace A := A.past (.cells #[.int .i64 (hi (ab d)), .int .u64 (lo (ab d))] 24)
    have S := Box.new w4 (ab d)
    replace k4 := balloc k4 (.cells #[.int .i64 (hi (ab d)), .int .u64 (lo (ab d))] 24)
    have ⟨S0, S1⟩ := S
    go_wp2_with fail
    refine (scale_u (ab d) 2305843009213693953 _ (by decide) (by decide)).mono ?_
    rintro e w5 ⟨rfl, hb⟩
    replace A := A.keeps hb
    replace S := S.keeps hb
    have k5 := bnext k4 hb
    clear hb k4
    clear S0 S1 S
    replace A := A.past (.cells #[.int .i64 (hi (ab d * 2305843009213693953)), .int .u64 (lo (ab d * 2305843009213693953))] 24)
    have M := Box.new w5 (ab d * 2305843009213693953)
    replace k5 := balloc k5 (.cells #[.int .i64 (hi (ab d * 2305843009213693953)), .int .u64 (lo (ab d * 2305843009213693953))] 24)
    have ⟨A0, A1⟩ := A
    go_wp2_with fail
    refine (absolute_u ia _).mono ?_
    rintro e w6 ⟨rfl, hb⟩
    replace M := M.keeps hb
    have k6 := bnext k5 hb
    clear hb k5
    clear A0 A1 A
    have z56 : w5.heap.size < w6.heap.size := M.lt
    have z6 : w.heap.size ≤ w6.heap.size := k6.size
    replace M := M.past (.cells #[.int .i64 (hi (ab a)), .int .u64 (lo (ab a))] 24)
    have T := Box.new w6 (ab a)
    have FT := Free.new w6 #[.int .i64 (hi (ab a)), .int .u64 (lo (ab a))]
    replace k6 := balloc k6 (.cells #[.int .i64 (hi (ab a)), .int .u64 (lo (ab a))] 24)
    have ⟨T0, T1⟩ := T
    go_wp2_with fail
    refine (add_u (ab a) (ab a) _).mono ?_
    rintro e w7 ⟨rfl, hb⟩
    replace M := M.keeps hb
    replace T := T.keeps hb
    replace FT := FT.keeps hb
    have k7 := bnext k6 hb
    clear hb k6
    clear T0 T1
    have ⟨g0, g1, g2⟩ := FT
    have ⟨T0, T1⟩ := T
    have T' := T.put (ab a + ab a)
    have M' := M.off (k' := w6.heap.size) (by omega) (.int .i64 (hi (ab a + ab a))) (.int .u64 (lo (ab a + ab a)))
    have k8 := store2 k7 z6 (.int .i64 (hi (ab a + ab a))) (.int .u64 (lo (ab a + ab a)))
    have ⟨T0', T1'⟩ := T'
    have ⟨M0', M1'⟩ := M'
    by_cases c1 : ab a + ab a < 170141183460469231731687303715884105728
    · have s1 : 0 ≤ hi (ab a + ab a) := HS.out.2 c1
      have iT : In (ab a + ab a) := by unfold In; omega
      have HC : Hid (dvOk a d = true ↔ cmp (ab a + ab a) (ab d * 2305843009213693953) ≤ 0) := by
        unfold Hid; rw [HL.out, cmp_le]
      by_cases c2 : dvOk a d = true
      · have c4 : decide (cmp (ab a + ab a) (ab d * 2305843009213693953) ≤ 0) = true := by rw [decide_eq_true_eq]; exact HC.out.1 c2
        go_wp2_with fail
        refine (compare_u iT f2 _).mono ?_
        rintro e w9 ⟨rfl, hb⟩
        have k9 := bnext k8 hb
        clear hb
        go_wp2
        go_ret
        exact ⟨rfl, k9⟩
      · have c2' : dvOk a d = false := by simpa using c2
        have c4 : decide (cmp (ab a + ab a) (ab d * 2305843009213693953) ≤ 0) = false := by rw [decide_eq_false_iff_not]; exact fun h => c2 (HC.out.2 h)
        clear c2
        go_wp2_with fail
        refine (compare_u iT f2 _).mono ?_
        rintro e w9 ⟨rfl, hb⟩
        have k9 := bnext k8 hb
        clear hb
        go_wp2
        go_ret
        exact ⟨rfl, k9⟩
    · have s1 : hi (ab a + ab a) < 0 := by have := HS.out; omega
      have s2 : decide (0 ≤ hi (ab a + ab a)) = false := by simp; omega
      have c2 : dvOk a d = false := H6.out (by omega)
      go_wp2
      go_ret
      exact ⟨rfl, k8⟩

set_option maxRecDepth 100000 in
theorem lifted (os : Os) (started : os.Started) (H : Type) (enc : TypeId × Value → H) :
    ReturnsInHanded {} Try.checked os 11 .any (Rows.exactLimitSpec.pre6 enc Try.prog Try.f11 Rows.exactLimitRow.domain false) (Rows.exactLimitSpec.post enc Try.prog Try.f11 false true false false) := by
  refine returnsInHanded_of_change (C := Try.checked) own started (by kernel_rfl) Try.func11
    (ChangeSpec.witness6 (enc := enc) (C := Try.checked) false ⟨#[], #[.agg #[.int .i64 0, .int .u64 0], .int .i64 0], []⟩ 8 (by kernel_rfl) (by kernel_rfl) (by kernel_rfl) (by kernel_rfl)) ?_
  intro Z base args ds gs before hval0 hW hcnd _
  have hval : ∀ (j : Nat) t v, Try.f11.params[j]? = some t → args[j]? = some v → Value.okWide Try.prog Z .any base t v := hval0
  have hW' := hW
  obtain ⟨p, q, hA0, hV, rfl, hfz, hnd⟩ := hW
  have hA : DataW.TrodAll enc Try.prog Z 0 (fun _ => true) true Try.f11.params.toList args.toList ds p := hA0
  rw [Try.params11] at hA hval
  obtain ⟨v0, vs0, d0, ds0, p0, q0, hargs, rfl, rfl, h0, r0⟩ := trodAll_cons hA
  obtain ⟨v1, vs1, d1, ds1, p1, q1, rfl, rfl, rfl, h1, r1⟩ := trodAll_cons r0
  obtain ⟨rfl, rfl, rfl⟩ := trodAll_nil r1
  obtain rfl : args = #[v0, v1] := by cases args; simp_all
  obtain ⟨rfl, rfl⟩ := trodVars_none hV
  obtain ⟨c0, k0, y0, z0, m0, rfl, rfl, rfl, hy0, hz0⟩ := open_agg2 Try.underlying24 (by kernel_rfl) cells24 (hval 0 24 v0 rfl rfl) h0
  obtain ⟨x0, e0, rfl, w0⟩ := DataW.trod_int Try.underlying3 hy0
  obtain ⟨l0, g0, rfl, u0⟩ := DataW.trod_int Try.underlying22 hz0
  simp only [List.cons.injEq, and_true] at e0 g0
  subst e0 g0
  obtain ⟨a0, i0, e0⟩ := wide_of w0 u0
  obtain ⟨a1, rfl, rfl, rfl, w1⟩ := open_int Try.underlying3 (hval 1 3 v1 rfl rfl) h1
  have n1 := bounds_i64 w1
  clear hA0 hval0
  simp only [List.append_nil] at hW'
  refine (walk e0 i0 a1 n1.1 n1.2 Z).mono fun e Z' ⟨he, hg⟩ => ?_
  subst he
  exact ⟨_, rfl, post_below (pa := []) (pv := []) hW' (fun _ _ _ => (trodAll_cons_mk (shut_bool Try.underlying4 _) trodAll_mk0)) (fun sp _ => (trodAll_cons_mk (shut_wide w0 u0) (trodAll_cons_mk (shut_int Try.underlying3 w1) trodAll_mk0))) (fun _ _ => rfl) hg.frame⟩

theorem over : Rows.exactLimitRow.holds Try.pinned (OpenSpec.ofChange Rows.exactLimitSpec) :=
  OpenClaim.holds_of_wide 11 Try.f11 rfl rfl rfl rfl rfl rfl rfl ⟨rfl, rfl, rfl, rfl, rfl⟩ rfl rfl rfl rfl rfl (by kernel_rfl) Try.func11 (by kernel_rfl)
    (of_decide_eq_true (by kernel_rfl)) (by unfold Func.isWrapper; first | (rw [if_pos (by decide +kernel)]; kernel_rfl) | (rw [if_neg (by decide +kernel)]; exact ⟨rfl, rfl⟩))
    (fun os started H enc _ => lifted os started H enc)

/-- The statement. -/
theorem proved : Rows.ExactLimitSaid :=
  over
#print axioms proved
end Go.Proofs.Ytdppmppipbbepaa.limitLaw

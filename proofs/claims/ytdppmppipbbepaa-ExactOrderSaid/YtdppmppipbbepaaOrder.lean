/-
  The statement ExactOrder holds for every three Wides and every two ints.
-/
import Derived.Test.YtdppmppipbbepaaLift
import Derived.Deep.CutBlock
import Derived.Deep.DeepCutAuto
namespace Go.Proofs.Ytdppmppipbbepaa.order
open Go.ChangeShapes Go.WideShapes Go.ChangeAt Go.RowKit Go.Joins Go.Sort

/-- What the walk needs of the answers x, y, z of Compare. -/
structure Ord (a b c x y z : Int) : Prop where
  e1 : cmp a b = x
  e2 : cmp b c = y
  e3 : cmp a c = z
  e4 : cmp b a = -x
  x1 : -1 ≤ x
  x2 : x ≤ 1
  y1 : -1 ≤ y
  y2 : y ≤ 1
  z1 : -1 ≤ z
  z2 : z ≤ 1
  five : (x = -1 ∧ (hi a == hi b) = false) ∨ (x = -1 ∧ (hi a == hi b) = true ∧ (lo a == lo b) = false) ∨ (x = 0 ∧ b = a) ∨ (x = 1 ∧ (hi a == hi b) = true ∧ (lo a == lo b) = false) ∨ (x = 1 ∧ (hi a == hi b) = false)
  tr : x ≤ 0 → y ≤ 0 → z ≤ 0
  neg : x < 0 ↔ a < b

theorem ord (a b c : Int) (ia : In a) (ib : In b) : Ord a b c (cmp a b) (cmp b c) (cmp a c) := by
  have h1 := cmp_cases a b
  have h2 := cmp_cases b c
  have h3 := cmp_cases a c
  have h4 := cmp_cases b a
  constructor
  case e1 => rfl
  case e2 => rfl
  case e3 => rfl
  case five =>
    simp only [beq_eq_false_iff_ne, beq_iff_eq]
    rcases five a b with h | h | h | h | h
    · have := lt_of ia ib (.inl h); omega
    · have := lt_of ia ib (.inr h); omega
    · have := eq_of ia ib h.1 h.2; omega
    · have := lt_of ib ia (.inr ⟨h.1.symm, h.2⟩); omega
    · have := lt_of ib ia (.inl h); omega
  all_goals omega
def Quarter (a : Int) : Prop := -2305843009213693952 ≤ hi a ∧ hi a < 2305843009213693952
theorem quarter {a b c : Int} (ia : In a) (ib : In b) (ic : In c) (qa : Quarter a) (qb : Quarter b) (qc : Quarter c) : In (a + c) ∧ In (b + c) ∧ (hi (a - b) < 0 ↔ a < b) := by
  unfold In at *; unfold Quarter at *; unfold hi at *; omega
theorem cmp_add (a b c : Int) : cmp (a + c) (b + c) = cmp a b := by unfold cmp; split <;> split <;> omega
/-- The three parameters in memory, and nothing old changed. -/
def St (w wx : World) (a b c : Int) : Prop := Box wx w.heap.size a ∧ Box wx (w.heap.size + 1) b ∧ Box wx (w.heap.size + 1 + 1) c ∧ Go.RowKit.Below w.heap.size w wx

set_option maxRecDepth 100000 in
set_option maxHeartbeats 8000000 in
theorem walk {x0 : Value} {a : Int} (e0 : x0 = W a) (ia : In a) {x1 : Value} {b : Int} (e1 : x1 = W b) (ib : In b) {x2 : Value} {c : Int} (e2 : x2 = W c) (ic : In c) (n : Int) (n1 : -9223372036854775808 ≤ n) (n2 : n ≤ 9223372036854775807) (m : Int) (m1 : -9223372036854775808 ≤ m) (m2 : m ≤ 9223372036854775807) (w : World) :
    Calls Try.prog 8 #[x0, x1, x2, .int .i64 n, .int .i64 m] w fun e w' => e = .returned (.bool true) ∧ Below w.heap.size w w' := by
  subst e0 e1 e2
  have o := ord a b c ia ib
  generalize cmp a b = x at o
  generalize cmp b c = y at o
  generalize cmp a c = z at o
  obtain ⟨E1, E2, E3, E4, X1, X2, Y1, Y2, Z1, Z2, five, tr, neg⟩ := o
  have FIVE := Lib.hid five
  have TR := Lib.hid tr
  have NEG := Lib.hid neg
  clear five tr neg
  have inn : In n := by unfold In; omega
  have im : In m := by unfold In; omega
  obtain ⟨v, E5, HV⟩ : ∃ v, cmp n m = v ∧ Hid ((n < m ∧ v = -1) ∨ (n = m ∧ v = 0) ∨ (m < n ∧ v = 1)) := ⟨_, rfl, cmp_cases n m⟩
  unfold W
  go_enter Try.func8, Try.ntmps8
  go_wp2_with fail
  refine (example_any _).mono ?_
  rintro e w1 ⟨rfl, hb⟩
  have A := (((Box.new w a).past (.cells #[.int .i64 (hi b), .int .u64 (lo b)] 24)).past (.cells #[.int .i64 (hi c), .int .u64 (lo c)] 24)).keeps hb
  have B := ((Box.new (w.alloc (.cells #[.int .i64 (hi a), .int .u64 (lo a)] 24)) b).past (.cells #[.int .i64 (hi c), .int .u64 (lo c)] 24)).keeps hb
  have C := (Box.new ((w.alloc (.cells #[.int .i64 (hi a), .int .u64 (lo a)] 24)).alloc (.cells #[.int .i64 (hi b), .int .u64 (lo b)] 24)) c).keeps hb
  have k1 := bnext (balloc (balloc (balloc (b0 w) _) _) _) hb
  clear hb
  simp only [World.size_alloc] at B C
  go_wp2_with fail
  obtain ⟨A0, A1⟩ := A.regrown
  obtain ⟨B0, B1⟩ := B.regrown
  obtain ⟨C0, C1⟩ := C.regrown
  refine wp_region_quiet_below (by kernel_rfl) (by kernel_rfl) ?_
  repeat (quiet_step ((first | (go_at_call 14; exact Calls.regrown_of (add_u _ _ _)) | (go_at_call 16; exact Calls.regrown_of (sub_u _ _ _)) | (go_at_call 22; exact Calls.regrown_of (compare_u (by assumption) (by assumption) _)))))
  refine wpQuiet_nil ?_
  intro w2 hw2
  have hb := below_of hw2
  clear hw2 A0 A1 B0 B1 C0 C1
  replace A := A.keeps hb
  replace B := B.keeps hb
  replace C := C.keeps hb
  have k2 := bnext k1 hb
  clear hb k1
  have ⟨A0, A1⟩ := A
  have ⟨B0, B1⟩ := B
  go_upto_region 3 with fail
  go_cut [59] (fun s wx => s = .bool false ∧ St w wx a b c)
  case first =>
    rcases FIVE.out with ⟨rfl, h⟩ | ⟨rfl, h, h'⟩ | ⟨rfl, rfl⟩ | ⟨rfl, h, h'⟩ | ⟨rfl, h⟩
    · have H := Lib.hid h
      clear h
      go_wp2_with fail
      refine (compare_u ib ia _).mono ?_
      rintro e w3 ⟨rfl, hb⟩
      clear A0 A1 B0 B1
      replace A := A.keeps hb
      replace B := B.keeps hb
      replace C := C.keeps hb
      have k3 := bnext k2 hb
      clear hb k2
      have ⟨A0, A1⟩ := A
      have ⟨B0, B1⟩ := B
      have h := H.out
      by_cases hy : y ≤ 0
      · have hz := TR.out (by decide) hy
        have hz' : decide (0 < z) = false := by simp; omega
        go_wp2
        go_meet
        exact ⟨rfl, A, B, C, k3⟩
      · go_wp2
        go_meet
        exact ⟨rfl, A, B, C, k3⟩
    · have H := Lib.hid h
      clear h
      go_wp2_with fail
      refine (compare_u ib ia _).mono ?_
      rintro e w3 ⟨rfl, hb⟩
      clear A0 A1 B0 B1
      replace A := A.keeps hb
      replace B := B.keeps hb
      replace C := C.keeps hb
      have k3 := bnext k2 hb
      clear hb k2
      have ⟨A0, A1⟩ := A
      have ⟨B0, B1⟩ := B
      have h := H.out
      by_cases hy : y ≤ 0
      · have hz := TR.out (by decide) hy
        have hz' : decide (0 < z) = false := by simp; omega
        go_wp2
        go_meet
        exact ⟨rfl, A, B, C, k3⟩
      · go_wp2
        go_meet
        exact ⟨rfl, A, B, C, k3⟩
    · skip
      go_wp2_with fail
      refine (compare_u ib ia _).mono ?_
      rintro e w3 ⟨rfl, hb⟩
      clear A0 A1 B0 B1
      replace A := A.keeps hb
      replace B := B.keeps hb
      replace C := C.keeps hb
      have k3 := bnext k2 hb
      clear hb k2
      have ⟨A0, A1⟩ := A
      have ⟨B0, B1⟩ := B
      by_cases hy : y ≤ 0
      · have hz := TR.out (by decide) hy
        have hz' : decide (0 < z) = false := by simp; omega
        go_wp2
        go_meet
        exact ⟨rfl, A, B, C, k3⟩
      · go_wp2
        go_meet
        exact ⟨rfl, A, B, C, k3⟩
    · have H := Lib.hid h
      clear h
      go_wp2_with fail
      refine (compare_u ib ia _).mono ?_
      rintro e w3 ⟨rfl, hb⟩
      clear A0 A1 B0 B1
      replace A := A.keeps hb
      replace B := B.keeps hb
      replace C := C.keeps hb
      have k3 := bnext k2 hb
      clear hb k2
      have ⟨A0, A1⟩ := A
      have ⟨B0, B1⟩ := B
      have h := H.out
      go_wp2
      go_meet
      exact ⟨rfl, A, B, C, k3⟩
    · have H := Lib.hid h
      clear h
      go_wp2_with fail
      refine (compare_u ib ia _).mono ?_
      rintro e w3 ⟨rfl, hb⟩
      clear A0 A1 B0 B1
      replace A := A.keeps hb
      replace B := B.keeps hb
      replace C := C.keeps hb
      have k3 := bnext k2 hb
      clear hb k2
      have ⟨A0, A1⟩ := A
      have ⟨B0, B1⟩ := B
      have h := H.out
      go_wp2
      go_meet
      exact ⟨rfl, A, B, C, k3⟩
  case rest =>
    obtain ⟨rfl, A, B, C, k2⟩ := hcut
    clear FIVE TR
    go_wp2_with fail
    refine (of_u n _ n1 n2).mono ?_
    rintro e w3 ⟨rfl, hb⟩
    replace A := A.keeps hb
    replace B := B.keeps hb
    replace C := C.keeps hb
    have k3 := bnext k2 hb
    clear hb k2
    go_wp2_with fail
    refine (of_u m _ m1 m2).mono ?_
    rintro e w4 ⟨rfl, hb⟩
    replace A := A.keeps hb
    replace B := B.keeps hb
    replace C := C.keeps hb
    have k4 := bnext k3 hb
    clear hb k3
    go_wp2_with fail
    refine (compare_u inn im _).mono ?_
    rintro e w5 ⟨rfl, hb⟩
    replace A := A.keeps hb
    replace B := B.keeps hb
    replace C := C.keeps hb
    have k5 := bnext k4 hb
    clear hb k4
    go_upto_region 6 with fail
    go_cut [78] (fun s wx => s = .bool false ∧ wx = w5)
    case first =>
      rcases HV.out with ⟨h, rfl⟩ | ⟨h, rfl⟩ | ⟨h, rfl⟩
      · have h1 : decide (n < m) = true := by simp; omega
        have h2 : decide (m < n) = false := by simp; omega
        go_wp2
        go_meet
        exact ⟨rfl, rfl⟩
      · have h1 : decide (n < m) = false := by simp; omega
        have h2 : decide (m < n) = false := by simp; omega
        clear h
        go_wp2
        go_meet
        exact ⟨rfl, rfl⟩
      · have h1 : decide (n < m) = false := by simp; omega
        have h2 : decide (m < n) = true := by simp; omega
        go_wp2
        go_meet
        exact ⟨rfl, rfl⟩
    case rest =>
      obtain ⟨rfl, rfl⟩ := hcut
      clear E5 HV inn im
      have ⟨A0, A1⟩ := A
      have ⟨B0, B1⟩ := B
      have ⟨C0, C1⟩ := C
      by_cases Q : Quarter a ∧ Quarter b ∧ Quarter c
      · obtain ⟨qa, qb, qc⟩ := Q
        obtain ⟨iac, ibc, sgn⟩ := quarter ia ib ic qa qb qc
        have E6 : cmp (a + c) (b + c) = x := by rw [cmp_add]; exact E1
        obtain ⟨qa1, qa2⟩ := qa
        obtain ⟨qb1, qb2⟩ := qb
        obtain ⟨qc1, qc2⟩ := qc
        have h1 : decide (hi (a - b) < 0) = decide (x < 0) := by
          have := NEG.out
          by_cases hx : x < 0
          · simp [hx]; omega
          · simp [hx]; omega
        have H1 := Lib.hid h1
        clear h1 sgn
        go_wp2_with fail
        obtain ⟨A2, A3⟩ := A.regrown
        obtain ⟨B2, B3⟩ := B.regrown
        obtain ⟨C2, C3⟩ := C.regrown
        have h1 := H1.out
        have fld : ∀ w, (Instr.field 24 (.agg #[.int .i64 (hi (a - b)), .int .u64 (lo (a - b))]) 0).run Try.prog w = .ok (.int .i64 (hi (a - b))) w := fun _ => by kernel_rfl
        refine wp_region_quiet_below (by kernel_rfl) (by kernel_rfl) ?_
        repeat (quiet_step ((first | (go_at_call 14; exact Calls.regrown_of (add_u _ _ _)) | (go_at_call 16; exact Calls.regrown_of (sub_u _ _ _)) | (go_at_call 22; exact Calls.regrown_of (compare_u (by assumption) (by assumption) _)))))
        refine wpQuiet_nil ?_
        intro w6 hw6
        have hb := below_of hw6
        have k6 := bnext k5 hb
        clear hw6 hb A2 A3 B2 B3 C2 C3 h1
        go_wp2
        go_ret
        exact ⟨rfl, k6⟩
      · unfold Quarter at Q
        go_wp2_with fail
        all_goals (go_ret; exact ⟨rfl, k5⟩)

set_option maxRecDepth 100000 in
theorem lifted (os : Os) (started : os.Started) (H : Type) (enc : TypeId × Value → H) :
    ReturnsInHanded {} Try.checked os 8 .any (Rows.exactOrderSpec.pre6 enc Try.prog Try.f8 Rows.exactOrderRow.domain false) (Rows.exactOrderSpec.post enc Try.prog Try.f8 false true false false) := by
  refine returnsInHanded_of_change (C := Try.checked) own started (by kernel_rfl) Try.func8
    (ChangeSpec.witness6 (enc := enc) (C := Try.checked) false ⟨#[], #[.agg #[.int .i64 0, .int .u64 0], .agg #[.int .i64 0, .int .u64 0], .agg #[.int .i64 0, .int .u64 0], .int .i64 0, .int .i64 0], []⟩ 8 (by kernel_rfl) (by kernel_rfl) (by kernel_rfl) (by kernel_rfl)) ?_
  intro Z base args ds gs before hval0 hW hcnd _
  have hval : ∀ (j : Nat) t v, Try.f8.params[j]? = some t → args[j]? = some v → Value.okWide Try.prog Z .any base t v := hval0
  have hW' := hW
  obtain ⟨p, q, hA0, hV, rfl, hfz, hnd⟩ := hW
  have hA : DataW.TrodAll enc Try.prog Z 0 (fun _ => true) true Try.f8.params.toList args.toList ds p := hA0
  rw [Try.params8] at hA hval
  obtain ⟨v0, vs0, d0, ds0, p0, q0, hargs, rfl, rfl, h0, r0⟩ := trodAll_cons hA
  obtain ⟨v1, vs1, d1, ds1, p1, q1, rfl, rfl, rfl, h1, r1⟩ := trodAll_cons r0
  obtain ⟨v2, vs2, d2, ds2, p2, q2, rfl, rfl, rfl, h2, r2⟩ := trodAll_cons r1
  obtain ⟨v3, vs3, d3, ds3, p3, q3, rfl, rfl, rfl, h3, r3⟩ := trodAll_cons r2
  obtain ⟨v4, vs4, d4, ds4, p4, q4, rfl, rfl, rfl, h4, r4⟩ := trodAll_cons r3
  obtain ⟨rfl, rfl, rfl⟩ := trodAll_nil r4
  obtain rfl : args = #[v0, v1, v2, v3, v4] := by cases args; simp_all
  obtain ⟨rfl, rfl⟩ := trodVars_none hV
  obtain ⟨c0, k0, y0, z0, m0, rfl, rfl, rfl, hy0, hz0⟩ := open_agg2 Try.underlying24 (by kernel_rfl) cells24 (hval 0 24 v0 rfl rfl) h0
  obtain ⟨x0, e0, rfl, w0⟩ := DataW.trod_int Try.underlying3 hy0
  obtain ⟨l0, g0, rfl, u0⟩ := DataW.trod_int Try.underlying22 hz0
  simp only [List.cons.injEq, and_true] at e0 g0
  subst e0 g0
  obtain ⟨a0, i0, e0⟩ := wide_of w0 u0
  obtain ⟨c1, k1, y1, z1, m1, rfl, rfl, rfl, hy1, hz1⟩ := open_agg2 Try.underlying24 (by kernel_rfl) cells24 (hval 1 24 v1 rfl rfl) h1
  obtain ⟨x1, e1, rfl, w1⟩ := DataW.trod_int Try.underlying3 hy1
  obtain ⟨l1, g1, rfl, u1⟩ := DataW.trod_int Try.underlying22 hz1
  simp only [List.cons.injEq, and_true] at e1 g1
  subst e1 g1
  obtain ⟨a1, i1, e1⟩ := wide_of w1 u1
  obtain ⟨c2, k2, y2, z2, m2, rfl, rfl, rfl, hy2, hz2⟩ := open_agg2 Try.underlying24 (by kernel_rfl) cells24 (hval 2 24 v2 rfl rfl) h2
  obtain ⟨x2, e2, rfl, w2⟩ := DataW.trod_int Try.underlying3 hy2
  obtain ⟨l2, g2, rfl, u2⟩ := DataW.trod_int Try.underlying22 hz2
  simp only [List.cons.injEq, and_true] at e2 g2
  subst e2 g2
  obtain ⟨a2, i2, e2⟩ := wide_of w2 u2
  obtain ⟨a3, rfl, rfl, rfl, w3⟩ := open_int Try.underlying3 (hval 3 3 v3 rfl rfl) h3
  have n3 := bounds_i64 w3
  obtain ⟨a4, rfl, rfl, rfl, w4⟩ := open_int Try.underlying3 (hval 4 3 v4 rfl rfl) h4
  have n4 := bounds_i64 w4
  clear hA0 hval0
  simp only [List.append_nil] at hW'
  refine (walk e0 i0 e1 i1 e2 i2 a3 n3.1 n3.2 a4 n4.1 n4.2 Z).mono fun e Z' ⟨he, hg⟩ => ?_
  subst he
  exact ⟨_, rfl, post_below (pa := []) (pv := []) hW' (fun _ _ _ => (trodAll_cons_mk (shut_bool Try.underlying4 _) trodAll_mk0)) (fun sp _ => (trodAll_cons_mk (shut_wide w0 u0) (trodAll_cons_mk (shut_wide w1 u1) (trodAll_cons_mk (shut_wide w2 u2) (trodAll_cons_mk (shut_int Try.underlying3 w3) (trodAll_cons_mk (shut_int Try.underlying3 w4) trodAll_mk0)))))) (fun _ _ => rfl) hg.frame⟩

theorem over : Rows.exactOrderRow.holds Try.pinned (OpenSpec.ofChange Rows.exactOrderSpec) :=
  OpenClaim.holds_of_wide 8 Try.f8 rfl rfl rfl rfl rfl rfl rfl ⟨rfl, rfl, rfl, rfl, rfl⟩ rfl rfl rfl rfl rfl (by kernel_rfl) Try.func8 (by kernel_rfl)
    (of_decide_eq_true (by kernel_rfl)) (by unfold Func.isWrapper; first | (rw [if_pos (by decide +kernel)]; kernel_rfl) | (rw [if_neg (by decide +kernel)]; exact ⟨rfl, rfl⟩))
    (fun os started H enc _ => lifted os started H enc)

/-- The statement. -/
theorem proved : Rows.ExactOrderSaid :=
  over
#print axioms proved
end Go.Proofs.Ytdppmppipbbepaa.order

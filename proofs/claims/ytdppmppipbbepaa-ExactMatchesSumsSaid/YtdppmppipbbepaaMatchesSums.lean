/-
  The statement ExactMatchesSums holds for every two Wides and every int.
-/
import Derived.Test.YtdppmppipbbepaaLift
import Derived.Test.YtdppmppipbbepaaRefRest
namespace Go.Proofs.Ytdppmppipbbepaa.matchesSums
open Go.ChangeShapes Go.WideShapes Go.ChangeAt Go.RowKit Go.Joins Go.Sort

set_option maxHeartbeats 4000000 in
theorem walk {x0 : Value} {a : Int} (e0 : x0 = W a) (ia : In a) {x1 : Value} {b : Int} (e1 : x1 = W b) (ib : In b) (n : Int) (n1 : -9223372036854775808 ≤ n) (n2 : n ≤ 9223372036854775807) (w : World) :
    Calls Try.prog 3 #[x0, x1, .int .i64 n] w fun e w' => e = .returned (.bool true) ∧ Below w.heap.size w w' := by
  subst e0 e1
  unfold W
  go_enter Try.func3, Try.ntmps3
  go_wp2_with fail
  refine (example_any _).mono ?_
  rintro e w1 ⟨rfl, hb⟩
  have A := ((Box.new w a).past (.cells #[.int .i64 (hi b), .int .u64 (lo b)] 24)).keeps hb
  have B := (Box.new (w.alloc (.cells #[.int .i64 (hi a), .int .u64 (lo a)] 24)) b).keeps hb
  have k1 := bnext (balloc (balloc (b0 w) _) _) hb
  clear hb
  simp only [World.size_alloc] at B
  go_wp2_with fail
  obtain ⟨A0, A1⟩ := A.regrown
  obtain ⟨B0, B1⟩ := B.regrown
  refine wp_region_quiet_below (by kernel_rfl) (by kernel_rfl) ?_
  repeat (quiet_step ((first | (go_at_call 20; exact Calls.regrown_of (of_u _ _ (by omega) (by omega))) | (go_at_call 21; exact Calls.regrown_of (refOf_any _ _ (by omega) (by omega))) | (go_at_call 14; exact Calls.regrown_of (add_u _ _ _)) | (go_at_call 15; exact Calls.regrown_of (refAdd_u _ _ _)) | (go_at_call 16; exact Calls.regrown_of (sub_u _ _ _)) | (go_at_call 17; exact Calls.regrown_of (refSub_u _ _ _)) | (go_at_call 18; exact Calls.regrown_of (neg_u _ _)) | (go_at_call 19; exact Calls.regrown_of (refNeg_u _ _)) | (go_at_call 22; exact Calls.regrown_of (compare_u ia ib _)) | (go_at_call 23; exact Calls.regrown_of (refCompare_any ia ib _)))))
  refine wpQuiet_nil ?_
  intro w2 hw2
  have hb := below_of hw2
  clear hw2 A0 A1 B0 B1
  replace A := A.keeps hb
  replace B := B.keeps hb
  have k2 := bnext k1 hb
  clear hb
  go_wp2_with fail
  obtain ⟨A0, A1⟩ := A.regrown
  obtain ⟨B0, B1⟩ := B.regrown
  refine wp_region_quiet_below (by kernel_rfl) (by kernel_rfl) ?_
  repeat (quiet_step ((first | (go_at_call 20; exact Calls.regrown_of (of_u _ _ (by omega) (by omega))) | (go_at_call 21; exact Calls.regrown_of (refOf_any _ _ (by omega) (by omega))) | (go_at_call 14; exact Calls.regrown_of (add_u _ _ _)) | (go_at_call 15; exact Calls.regrown_of (refAdd_u _ _ _)) | (go_at_call 16; exact Calls.regrown_of (sub_u _ _ _)) | (go_at_call 17; exact Calls.regrown_of (refSub_u _ _ _)) | (go_at_call 18; exact Calls.regrown_of (neg_u _ _)) | (go_at_call 19; exact Calls.regrown_of (refNeg_u _ _)) | (go_at_call 22; exact Calls.regrown_of (compare_u ia ib _)) | (go_at_call 23; exact Calls.regrown_of (refCompare_any ia ib _)))))
  refine wpQuiet_nil ?_
  intro w3 hw3
  have hb := below_of hw3
  clear hw3 A0 A1 B0 B1
  replace A := A.keeps hb
  replace B := B.keeps hb
  have k3 := bnext k2 hb
  clear hb
  go_wp2
  go_ret
  exact ⟨rfl, k3⟩

set_option maxRecDepth 100000 in
theorem lifted (os : Os) (started : os.Started) (H : Type) (enc : TypeId × Value → H) :
    ReturnsInHanded {} Try.checked os 3 .any (Rows.exactMatchesSumsSpec.pre6 enc Try.prog Try.f3 Rows.exactMatchesSumsRow.domain false) (Rows.exactMatchesSumsSpec.post enc Try.prog Try.f3 false true false false) := by
  refine returnsInHanded_of_change (C := Try.checked) own started (by kernel_rfl) Try.func3
    (ChangeSpec.witness6 (enc := enc) (C := Try.checked) false ⟨#[], #[.agg #[.int .i64 0, .int .u64 0], .agg #[.int .i64 0, .int .u64 0], .int .i64 0], []⟩ 8 (by kernel_rfl) (by kernel_rfl) (by kernel_rfl) (by kernel_rfl)) ?_
  intro Z base args ds gs before hval0 hW hcnd _
  have hval : ∀ (j : Nat) t v, Try.f3.params[j]? = some t → args[j]? = some v → Value.okWide Try.prog Z .any base t v := hval0
  have hW' := hW
  obtain ⟨p, q, hA0, hV, rfl, hfz, hnd⟩ := hW
  have hA : DataW.TrodAll enc Try.prog Z 0 (fun _ => true) true Try.f3.params.toList args.toList ds p := hA0
  rw [Try.params3] at hA hval
  obtain ⟨v0, vs0, d0, ds0, p0, q0, hargs, rfl, rfl, h0, r0⟩ := trodAll_cons hA
  obtain ⟨v1, vs1, d1, ds1, p1, q1, rfl, rfl, rfl, h1, r1⟩ := trodAll_cons r0
  obtain ⟨v2, vs2, d2, ds2, p2, q2, rfl, rfl, rfl, h2, r2⟩ := trodAll_cons r1
  obtain ⟨rfl, rfl, rfl⟩ := trodAll_nil r2
  obtain rfl : args = #[v0, v1, v2] := by cases args; simp_all
  obtain ⟨rfl, rfl⟩ := trodVars_none hV
  obtain ⟨c0, k0, y0, z0, m0, rfl, rfl, rfl, hy0, hz0⟩ := open_agg2 Try.underlying24 (by kernel_rfl) cells24 (hval 0 24 v0 rfl rfl) h0
  obtain ⟨x0, e0, rfl, w0⟩ := DataW.trod_int Try.underlying3 hy0
  obtain ⟨l0, g0, rfl, u0⟩ := DataW.trod_int Try.underlying22 hz0
  simp only [List.cons.injEq, and_true] at e0 g0
  subst e0 g0
  obtain ⟨a0, i0, e0⟩ := wide_of w0 u0
  obtain ⟨c1, k1, y1, z1, m1, rfl, rfl, rfl, hy1, hz1⟩ := open_agg2 Try.underlying24 (by kernel_rfl) cells24 (hval 1 24 v1 rfl rfl) h1
  obtain ⟨x1, e1, rfl, w1⟩ := DataW.trod_int Try.underlying3 hy1
  obtain ⟨l1, g1, rfl, u1⟩ := DataW.trod_int Try.underlying22 hz1
  simp only [List.cons.injEq, and_true] at e1 g1
  subst e1 g1
  obtain ⟨a1, i1, e1⟩ := wide_of w1 u1
  obtain ⟨a2, rfl, rfl, rfl, w2⟩ := open_int Try.underlying3 (hval 2 3 v2 rfl rfl) h2
  have n2 := bounds_i64 w2
  clear hA0 hval0
  simp only [List.append_nil] at hW'
  refine (walk e0 i0 e1 i1 a2 n2.1 n2.2 Z).mono fun e Z' ⟨he, hg⟩ => ?_
  subst he
  exact ⟨_, rfl, post_below (pa := []) (pv := []) hW' (fun _ _ _ => (trodAll_cons_mk (shut_bool Try.underlying4 _) trodAll_mk0)) (fun sp _ => (trodAll_cons_mk (shut_wide w0 u0) (trodAll_cons_mk (shut_wide w1 u1) (trodAll_cons_mk (shut_int Try.underlying3 w2) trodAll_mk0)))) (fun _ _ => rfl) hg.frame⟩

theorem over : Rows.exactMatchesSumsRow.holds Try.pinned (OpenSpec.ofChange Rows.exactMatchesSumsSpec) :=
  OpenClaim.holds_of_wide 3 Try.f3 rfl rfl rfl rfl rfl rfl rfl ⟨rfl, rfl, rfl, rfl, rfl⟩ rfl rfl rfl rfl rfl (by kernel_rfl) Try.func3 (by kernel_rfl)
    (of_decide_eq_true (by kernel_rfl)) (by unfold Func.isWrapper; first | (rw [if_pos (by decide +kernel)]; kernel_rfl) | (rw [if_neg (by decide +kernel)]; exact ⟨rfl, rfl⟩))
    (fun os started H enc _ => lifted os started H enc)

/-- The statement. -/
theorem proved : Rows.ExactMatchesSumsSaid :=
  over
#print axioms proved
end Go.Proofs.Ytdppmppipbbepaa.matchesSums

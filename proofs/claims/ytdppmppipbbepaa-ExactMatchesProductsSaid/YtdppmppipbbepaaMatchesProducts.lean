/-
  The statement ExactMatchesProducts holds for every Wide and every two ints.
-/
import Derived.Test.YtdppmppipbbepaaLift
import Derived.Test.YtdppmppipbbepaaRefScale
namespace Go.Proofs.Ytdppmppipbbepaa.matchesProducts
open Go.ChangeShapes Go.WideShapes Go.ChangeAt Go.RowKit Go.Joins Go.Sort

theorem refScale_u (a n : Int) (w : World) (h1 : -9223372036854775808 ≤ n) (h2 : n ≤ 9223372036854775807) :
    Calls Try.prog 27 #[.agg #[.int .i64 (hi a), .int .u64 (lo a)], .int .i64 n] w fun e w' => e = .returned (.agg #[.int .i64 (hi (a * n)), .int .u64 (lo (a * n))]) ∧ Go.RowKit.Below w.heap.size w w' := refScale_any n rfl w h1 h2
theorem refMul_u (a b : Int) (w : World) (h1 : -9223372036854775808 ≤ a) (h2 : a ≤ 9223372036854775807) (h3 : -9223372036854775808 ≤ b) (h4 : b ≤ 9223372036854775807) :
    Calls Try.prog 25 #[.int .i64 a, .int .i64 b] w fun e w' => e = .returned (.agg #[.int .i64 (hi (a * b)), .int .u64 (lo (a * b))]) ∧ Go.RowKit.Below w.heap.size w w' := by
  have N := Fresh.new w
  have k1 := balloc (b0 w) (.cells #[.int .i64 0, .int .u64 0] 24)
  go_enter Try.func25, Try.ntmps25
  go_wp2_with fail
  refine (refOf_any a _ h1 h2).mono ?_
  rintro e w1 ⟨rfl, hb⟩
  replace N := N.keeps hb
  have k2 := bnext k1 hb
  clear hb k1
  go_wp2_with fail
  refine (refScale_u a b _ h3 h4).mono ?_
  rintro e w2 ⟨rfl, hb⟩
  replace N := N.keeps hb
  have k3 := bnext k2 hb
  clear hb k2
  have ⟨y0, y1, y2, y3, y4⟩ := N
  obtain ⟨r0, r1⟩ := N.put (a * b)
  have k4 := store2 k3 (k := w.heap.size) (Nat.le_refl _) (.int .i64 (hi (a * b))) (.int .u64 (lo (a * b)))
  go_wp2
  simp [bodyPost, results, Try.results25, go_sem, r0, r1]
  exact k4

set_option maxHeartbeats 4000000 in
theorem walk {x0 : Value} {a : Int} (e0 : x0 = W a) (_ia : In a) (b : Int) (b1 : -9223372036854775808 ≤ b) (b2 : b ≤ 9223372036854775807) (c : Int) (c1 : -9223372036854775808 ≤ c) (c2 : c ≤ 9223372036854775807) (w : World) :
    Calls Try.prog 4 #[x0, .int .i64 b, .int .i64 c] w fun e w' => e = .returned (.bool true) ∧ Below w.heap.size w w' := by
  subst e0
  unfold W
  go_enter Try.func4, Try.ntmps4
  go_wp2_with fail
  refine (example_any _).mono ?_
  rintro e w1 ⟨rfl, hb⟩
  have A := (Box.new w a).keeps hb
  have k1 := bnext (balloc (b0 w) _) hb
  clear hb
  go_wp2_with fail
  obtain ⟨A0, A1⟩ := A.regrown
  refine wp_region_quiet_below (by kernel_rfl) (by kernel_rfl) ?_
  repeat (quiet_step ((first | (go_at_call 24; exact Calls.regrown_of (mul_u _ _ _ (by omega) (by omega) (by omega) (by omega))) | (go_at_call 25; exact Calls.regrown_of (refMul_u _ _ _ (by omega) (by omega) (by omega) (by omega))) | (go_at_call 26; exact Calls.regrown_of (scale_u _ _ _ (by omega) (by omega))) | (go_at_call 27; exact Calls.regrown_of (refScale_u _ _ _ (by omega) (by omega))))))
  refine wpQuiet_nil ?_
  intro w2 hw2
  have hb := below_of hw2
  have k2 := bnext k1 hb
  clear hw2 A0 A1 hb A k1
  go_wp2
  go_ret
  exact ⟨rfl, k2⟩

set_option maxRecDepth 100000 in
theorem lifted (os : Os) (started : os.Started) (H : Type) (enc : TypeId × Value → H) :
    ReturnsInHanded {} Try.checked os 4 .any (Rows.exactMatchesProductsSpec.pre6 enc Try.prog Try.f4 Rows.exactMatchesProductsRow.domain false) (Rows.exactMatchesProductsSpec.post enc Try.prog Try.f4 false true false false) := by
  refine returnsInHanded_of_change (C := Try.checked) own started (by kernel_rfl) Try.func4
    (ChangeSpec.witness6 (enc := enc) (C := Try.checked) false ⟨#[], #[.agg #[.int .i64 0, .int .u64 0], .int .i64 0, .int .i64 0], []⟩ 8 (by kernel_rfl) (by kernel_rfl) (by kernel_rfl) (by kernel_rfl)) ?_
  intro Z base args ds gs before hval0 hW hcnd _
  have hval : ∀ (j : Nat) t v, Try.f4.params[j]? = some t → args[j]? = some v → Value.okWide Try.prog Z .any base t v := hval0
  have hW' := hW
  obtain ⟨p, q, hA0, hV, rfl, hfz, hnd⟩ := hW
  have hA : DataW.TrodAll enc Try.prog Z 0 (fun _ => true) true Try.f4.params.toList args.toList ds p := hA0
  rw [Try.params4] at hA hval
  obtain ⟨v0, vs0, d0, ds0, p0, q0, hargs, rfl, rfl, h0, r0⟩ := trodAll_cons hA
  obtain ⟨v1, vs1, d1, ds1, p1, q1, rfl, rfl, rfl, h1, r1⟩ := trodAll_cons r0
  obtain ⟨v2, vs2, d2, ds2, p2, q2, rfl, rfl, rfl, h2, r2⟩ := trodAll_cons r1
  obtain ⟨rfl, rfl, rfl⟩ := trodAll_nil r2
  obtain rfl : args = #[v0, v1, v2] := by cases args; simp_all
  obtain ⟨rfl, rfl⟩ := trodVars_none hV
  obtain ⟨c0, k0, y0, z0, m0, rfl, rfl, rfl, hy0, hz0⟩ := open_agg2 Try.underlying24 (by kernel_rfl) cells24 (hval 0 24 v0 rfl rfl) h0
  obtain ⟨x0, e0, rfl, w0⟩ := DataW.trod_int Try.underlying3 hy0
  obtain ⟨l0, g0, rfl, u0⟩ := DataW.trod_int Try.underlying22 hz0
  simp only [List.cons.injEq, and_true] at e0 g0
  subst e0 g0
  obtain ⟨a0, i0, e0⟩ := wide_of w0 u0
  obtain ⟨a1, rfl, rfl, rfl, w1⟩ := open_int Try.underlying3 (hval 1 3 v1 rfl rfl) h1
  have n1 := bounds_i64 w1
  obtain ⟨a2, rfl, rfl, rfl, w2⟩ := open_int Try.underlying3 (hval 2 3 v2 rfl rfl) h2
  have n2 := bounds_i64 w2
  clear hA0 hval0
  simp only [List.append_nil] at hW'
  refine (walk e0 i0 a1 n1.1 n1.2 a2 n2.1 n2.2 Z).mono fun e Z' ⟨he, hg⟩ => ?_
  subst he
  exact ⟨_, rfl, post_below (pa := []) (pv := []) hW' (fun _ _ _ => (trodAll_cons_mk (shut_bool Try.underlying4 _) trodAll_mk0)) (fun sp _ => (trodAll_cons_mk (shut_wide w0 u0) (trodAll_cons_mk (shut_int Try.underlying3 w1) (trodAll_cons_mk (shut_int Try.underlying3 w2) trodAll_mk0)))) (fun _ _ => rfl) hg.frame⟩

theorem over : Rows.exactMatchesProductsRow.holds Try.pinned (OpenSpec.ofChange Rows.exactMatchesProductsSpec) :=
  OpenClaim.holds_of_wide 4 Try.f4 rfl rfl rfl rfl rfl rfl rfl ⟨rfl, rfl, rfl, rfl, rfl⟩ rfl rfl rfl rfl rfl (by kernel_rfl) Try.func4 (by kernel_rfl)
    (of_decide_eq_true (by kernel_rfl)) (by unfold Func.isWrapper; first | (rw [if_pos (by decide +kernel)]; kernel_rfl) | (rw [if_neg (by decide +kernel)]; exact ⟨rfl, rfl⟩))
    (fun os started H enc _ => lifted os started H enc)

/-- The statement. -/
theorem proved : Rows.ExactMatchesProductsSaid :=
  over
#print axioms proved
end Go.Proofs.Ytdppmppipbbepaa.matchesProducts

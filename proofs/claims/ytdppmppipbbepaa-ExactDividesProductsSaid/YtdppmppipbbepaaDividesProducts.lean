/-
  The statement ExactDividesProducts holds for every two ints.
-/
import Derived.Test.YtdppmppipbbepaaLift
namespace Go.Proofs.Ytdppmppipbbepaa.dividesProducts
open Go.ChangeShapes Go.WideShapes Go.ChangeAt Go.RowKit Go.Joins Go.Sort

set_option maxHeartbeats 2000000 in
theorem walk (q : Int) (q1 : -9223372036854775808 ≤ q) (q2 : q ≤ 9223372036854775807) (d : Int) (d1 : -9223372036854775808 ≤ d) (d2 : d ≤ 9223372036854775807) (w : World) :
    Calls Try.prog 10 #[.int .i64 q, .int .i64 d] w fun e w' => e = .returned (.bool true) ∧ Below w.heap.size w w' := by
  have iq := mul_in q1 q2 d1 d2
  by_cases h : d = 0 ∨ 1152921504606846976 < q ∨ q < -1152921504606846976
  · have hn := divides_not h
    have CD := Lib.hid (divide_at iq d1 d2 (no_result hn) hn)
    clear hn iq
    go_enter Try.func10, Try.ntmps10
    go_wp2_with fail
    refine (example_any _).mono ?_
    rintro e w1 ⟨rfl, k1⟩
    go_wp2_with fail
    refine (mul_u q d _ q1 q2 d1 d2).mono ?_
    rintro e w2 ⟨rfl, hb⟩
    have k2 := bnext k1 hb
    clear hb k1
    go_wp2_with fail
    refine (CD.out _).mono ?_
    rintro e w3 ⟨rfl, hb⟩
    have k3 := bnext k2 hb
    clear hb k2
    go_wp2
    all_goals (go_ret; exact ⟨rfl, k3⟩)
  · have h0 : (d == 0) = false := by rw [beq_eq_false_iff_ne]; omega
    have hy := divides (q := q) (d := d) (by omega) (by omega) (by omega)
    have CD := Lib.hid (divide_at iq d1 d2 hy.2 hy.1)
    clear hy iq
    go_enter Try.func10, Try.ntmps10
    go_wp2_with fail
    refine (example_any _).mono ?_
    rintro e w1 ⟨rfl, k1⟩
    go_wp2_with fail
    refine (mul_u q d _ q1 q2 d1 d2).mono ?_
    rintro e w2 ⟨rfl, hb⟩
    have k2 := bnext k1 hb
    clear hb k1
    go_wp2_with fail
    refine (CD.out _).mono ?_
    rintro e w3 ⟨rfl, hb⟩
    have k3 := bnext k2 hb
    clear hb k2
    go_wp2
    all_goals (go_ret; exact ⟨rfl, k3⟩)

set_option maxRecDepth 100000 in
theorem lifted (os : Os) (started : os.Started) (H : Type) (enc : TypeId × Value → H) :
    ReturnsInHanded {} Try.checked os 10 .any (Rows.exactDividesProductsSpec.pre6 enc Try.prog Try.f10 Rows.exactDividesProductsRow.domain false) (Rows.exactDividesProductsSpec.post enc Try.prog Try.f10 false true false false) := by
  refine returnsInHanded_of_change (C := Try.checked) own started (by kernel_rfl) Try.func10
    (ChangeSpec.witness6 (enc := enc) (C := Try.checked) false ⟨#[], #[.int .i64 0, .int .i64 0], []⟩ 8 (by kernel_rfl) (by kernel_rfl) (by kernel_rfl) (by kernel_rfl)) ?_
  intro Z base args ds gs before hval0 hW hcnd _
  have hval : ∀ (j : Nat) t v, Try.f10.params[j]? = some t → args[j]? = some v → Value.okWide Try.prog Z .any base t v := hval0
  have hW' := hW
  obtain ⟨p, q, hA0, hV, rfl, hfz, hnd⟩ := hW
  have hA : DataW.TrodAll enc Try.prog Z 0 (fun _ => true) true Try.f10.params.toList args.toList ds p := hA0
  rw [Try.params10] at hA hval
  obtain ⟨v0, vs0, d0, ds0, p0, q0, hargs, rfl, rfl, h0, r0⟩ := trodAll_cons hA
  obtain ⟨v1, vs1, d1, ds1, p1, q1, rfl, rfl, rfl, h1, r1⟩ := trodAll_cons r0
  obtain ⟨rfl, rfl, rfl⟩ := trodAll_nil r1
  obtain rfl : args = #[v0, v1] := by cases args; simp_all
  obtain ⟨rfl, rfl⟩ := trodVars_none hV
  obtain ⟨a0, rfl, rfl, rfl, w0⟩ := open_int Try.underlying3 (hval 0 3 v0 rfl rfl) h0
  have n0 := bounds_i64 w0
  obtain ⟨a1, rfl, rfl, rfl, w1⟩ := open_int Try.underlying3 (hval 1 3 v1 rfl rfl) h1
  have n1 := bounds_i64 w1
  clear hA0 hval0
  simp only [List.append_nil] at hW'
  refine (walk a0 n0.1 n0.2 a1 n1.1 n1.2 Z).mono fun e Z' ⟨he, hg⟩ => ?_
  subst he
  exact ⟨_, rfl, post_below (pa := []) (pv := []) hW' (fun _ _ _ => (trodAll_cons_mk (shut_bool Try.underlying4 _) trodAll_mk0)) (fun sp _ => (trodAll_cons_mk (shut_int Try.underlying3 w0) (trodAll_cons_mk (shut_int Try.underlying3 w1) trodAll_mk0))) (fun _ _ => rfl) hg.frame⟩

theorem over : Rows.exactDividesProductsRow.holds Try.pinned (OpenSpec.ofChange Rows.exactDividesProductsSpec) :=
  OpenClaim.holds_of_wide 10 Try.f10 rfl rfl rfl rfl rfl rfl rfl ⟨rfl, rfl, rfl, rfl, rfl⟩ rfl rfl rfl rfl rfl (by kernel_rfl) Try.func10 (by kernel_rfl)
    (of_decide_eq_true (by kernel_rfl)) (by unfold Func.isWrapper; first | (rw [if_pos (by decide +kernel)]; kernel_rfl) | (rw [if_neg (by decide +kernel)]; exact ⟨rfl, rfl⟩))
    (fun os started H enc _ => lifted os started H enc)

/-- The statement. -/
theorem proved : Rows.ExactDividesProductsSaid :=
  over
#print axioms proved
end Go.Proofs.Ytdppmppipbbepaa.dividesProducts

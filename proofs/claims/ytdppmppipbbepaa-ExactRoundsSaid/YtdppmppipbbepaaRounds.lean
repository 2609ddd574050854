/-
  The statement ExactRounds holds for every Wide and every int.
-/
import Derived.Test.YtdppmppipbbepaaLift
import Derived.Deep.CutBlock
import Derived.Deep.DeepCutAuto
import Derived.Deep.RegionHeld3
namespace Go.Proofs.Ytdppmppipbbepaa.roundsLaw
open Go.ChangeShapes Go.WideShapes Go.ChangeAt Go.RowKit Go.Joins Go.Sort

set_option maxRecDepth 100000 in
set_option maxHeartbeats 4000000 in
theorem walk {x0 : Value} {a : Int} (e0 : x0 = W a) (ia : In a) (d : Int) (d1 : -9223372036854775808 ≤ d) (d2 : d ≤ 9223372036854775807) (w : World) :
    Calls Try.prog 9 #[x0, .int .i64 d] w fun e w' => e = .returned (.bool true) ∧ Below w.heap.size w w' := by
  subst e0
  by_cases hk : dvOk a d = true
  · obtain ⟨hd, hq1, hq2, hr⟩ := rounds hk
    have CD := Lib.hid (divide_at ia d1 d2 (r := dv a d) (b := true) rfl hk)
    have h0 : (d == 0) = false := by rw [beq_eq_false_iff_ne]; omega
    have i1 : In d := by unfold In; omega
    have j1 : ab d ≤ 9223372036854775808 := by unfold ab; split <;> omega
    have j2 := ab_nonneg d
    have i2 : In (ab d) := by unfold In; omega
    have j3 := ab_nonneg (a - dv a d * d)
    have j4 : ab (a - dv a d * d) ≤ 9223372036854775808 := by omega
    have i3 : In (a - dv a d * d) := by unfold In; unfold ab at j4; split at j4 <;> omega
    have i4 : In (ab (a - dv a d * d) + ab (a - dv a d * d)) := by unfold In; omega
    have HR := Lib.hid hr
    clear hr hk hd j1 j2 j3 j4
    generalize dv a d = q at *
    generalize hs : a - q * d = s at *
    have HS := Lib.hid hs
    clear hs
    unfold W
    go_enter Try.func9, Try.ntmps9
    go_wp2_with fail
    refine (example_any _).mono ?_
    rintro e w1 ⟨rfl, hb⟩
    have A := (Box.new w a).keeps hb
    have k1 := bnext (balloc (b0 w) _) hb
    clear hb
    have ⟨A0, A1⟩ := A
    go_wp2_with fail
    refine (CD.out _).mono ?_
    rintro e w2 ⟨rfl, hb⟩
    clear A0 A1
    replace A := A.keeps hb
    have k2 := bnext k1 hb
    clear hb k1
    have ⟨A0, A1⟩ := A
    go_upto_region 7 with fail
    go_cut [8] (fun p wx => ∃ k : Nat, p = .pointer (some ⟨k, 0, none⟩) ∧ Box wx k (ab s) ∧ Go.RowKit.Below w.heap.size w wx)
    case first =>
      have SS0 : StA w w2 w.heap.size a := ⟨A, k2⟩
      have SS : StA w w2.drew w.heap.size a := ⟨A, k2.drew⟩
      go_region_held3 (fun w' => w'.cell? ⟨w.heap.size, 0, none⟩ = some (.int .i64 (hi a)) ∧ w'.cell? ⟨w.heap.size, 1, none⟩ = some (.int .u64 (lo a)) ∧ Go.RowKit.Below w.heap.size w w') ((first | exact StA.out (by assumption) | exact StA.out (StA.alloc (by assumption) _) | exact StA.out (StA.put (by assumption) (by assumption) _ _))) ((first | (go_at_call 24; refine (mul_u q d _ (by omega) (by omega) d1 d2).mono ?_; rintro e w3 ⟨rfl, hb⟩; have SS3 := StA.next (by first | assumption | exact StA.alloc (by assumption) _) hb; (try (have FF3 := Fresh.keeps (by first | assumption | exact Fresh.new _) hb; have ⟨y0, y1, y2, y3, y4⟩ := FF3)); clear hb) | (go_at_call 16; refine (sub_u a (q * d) _).mono ?_; rw [HS.out]; rintro e w4 ⟨rfl, hb⟩; have SS4 := StA.next (by first | assumption | exact StA.alloc (by assumption) _) hb; (try (have FF4 := Fresh.keeps (by first | assumption | exact Fresh.new _) hb; have ⟨y0, y1, y2, y3, y4⟩ := FF4)); clear hb) | (go_at_call 30; refine (absolute_u (a := s) i3 _).mono ?_; rintro e w5 ⟨rfl, hb⟩; have SS5 := StA.next (by first | assumption | exact StA.alloc (by assumption) _) hb; (try (have FF5 := Fresh.keeps (by first | assumption | exact Fresh.new _) hb; have ⟨y0, y1, y2, y3, y4⟩ := FF5)); clear hb)))
      all_goals
        go_wp2_with fail
        go_meet
        first | exact ⟨_, rfl, Box.new _ _, balloc SS5.2 _⟩ | exact ⟨_, rfl, FF5.put (ab s), (StA.put SS4 SS5 _ _).2⟩ | exact ⟨_, rfl, FF5.put (ab s), (StA.put SS3 SS5 _ _).2⟩ | exact ⟨_, rfl, FF5.put (ab s), (StA.put SS0 SS5 _ _).2⟩
    case rest =>
      obtain ⟨k, rfl, R, k3⟩ := hcut
      clear A A0 A1 k2 CD HS
      have ⟨R0, R1⟩ := R
      have hc := cmp_cases (ab s + ab s) (ab d)
      have h2 : (Hid (cmp (ab s + ab s) (ab d) = -1)) ∨ (Hid (cmp (ab s + ab s) (ab d) = 0) ∧ (q.tmod 2 == 0) = true) := by
        rcases HR.out with h | ⟨h, h'⟩
        · left; unfold Hid; omega
        · right; exact ⟨by unfold Hid; omega, by rw [h']; rfl⟩
      clear hc HR
      go_wp2_with fail
      refine (add_u (ab s) (ab s) _).mono ?_
      rintro e w6 ⟨rfl, hb⟩
      have k6 := bnext k3 hb
      clear hb k3 R R0 R1
      go_wp2_with fail
      refine (of_u d _ d1 d2).mono ?_
      rintro e w7 ⟨rfl, hb⟩
      have k7 := bnext k6 hb
      clear hb k6
      go_wp2_with fail
      refine (absolute_u i1 _).mono ?_
      rintro e w8 ⟨rfl, hb⟩
      have k8 := bnext k7 hb
      clear hb k7
      go_wp2_with fail
      refine (compare_u i4 i2 _).mono ?_
      rintro e w9 ⟨rfl, hb⟩
      have k9 := bnext k8 hb
      clear hb k8
      rcases h2 with h | ⟨h, h'⟩
      · rw [h.out]
        go_wp2
        go_ret
        exact ⟨rfl, k9⟩
      · rw [h.out]
        go_wp2
        go_ret
        exact ⟨rfl, k9⟩
  · have hn : dvOk a d = false := by simpa using hk
    have CD := Lib.hid (divide_at ia d1 d2 (no_result hn) hn)
    clear hn hk
    unfold W
    go_enter Try.func9, Try.ntmps9
    go_wp2_with fail
    refine (example_any _).mono ?_
    rintro e w1 ⟨rfl, hb⟩
    have A := (Box.new w a).keeps hb
    have k1 := bnext (balloc (b0 w) _) hb
    clear hb
    have ⟨A0, A1⟩ := A
    go_wp2_with fail
    refine (CD.out _).mono ?_
    rintro e w2 ⟨rfl, hb⟩
    have k2 := bnext k1 hb
    clear hb k1 A A0 A1
    go_wp2
    go_ret
    exact ⟨rfl, k2⟩

set_option maxRecDepth 100000 in
theorem lifted (os : Os) (started : os.Started) (H : Type) (enc : TypeId × Value → H) :
    ReturnsInHanded {} Try.checked os 9 .any (Rows.exactRoundsSpec.pre6 enc Try.prog Try.f9 Rows.exactRoundsRow.domain false) (Rows.exactRoundsSpec.post enc Try.prog Try.f9 false true false false) := by
  refine returnsInHanded_of_change (C := Try.checked) own started (by kernel_rfl) Try.func9
    (ChangeSpec.witness6 (enc := enc) (C := Try.checked) false ⟨#[], #[.agg #[.int .i64 0, .int .u64 0], .int .i64 0], []⟩ 8 (by kernel_rfl) (by kernel_rfl) (by kernel_rfl) (by kernel_rfl)) ?_
  intro Z base args ds gs before hval0 hW hcnd _
  have hval : ∀ (j : Nat) t v, Try.f9.params[j]? = some t → args[j]? = some v → Value.okWide Try.prog Z .any base t v := hval0
  have hW' := hW
  obtain ⟨p, q, hA0, hV, rfl, hfz, hnd⟩ := hW
  have hA : DataW.TrodAll enc Try.prog Z 0 (fun _ => true) true Try.f9.params.toList args.toList ds p := hA0
  rw [Try.params9] at hA hval
  obtain ⟨v0, vs0, d0, ds0, p0, q0, hargs, rfl, rfl, h0, r0⟩ := trodAll_cons hA
  obtain ⟨v1, vs1, d1, ds1, p1, q1, rfl, rfl, rfl, h1, r1⟩ := trodAll_cons r0
  obtain ⟨rfl, rfl, rfl⟩ := trodAll_nil r1
  obtain rfl : args = #[v0, v1] := by cases args; simp_all
  obtain ⟨rfl, rfl⟩ := trodVars_none hV
  obtain ⟨c0, k0, y0, z0, m0, rfl, rfl, rfl, hy0, hz0⟩ := open_agg2 Try.underlying24 (by kernel_rfl) cells24 (hval 0 24 v0 rfl rfl) h0
  obtain ⟨x0, e0, rfl, w0⟩ := DataW.trod_int Try.underlying3 hy0
  obtain ⟨l0, g0, rfl, u0⟩ := DataW.trod_int Try.underlying22 hz0
  simp only [List.cons.injEq, and_true] at e0 g0
  subst e0 g0
  obtain ⟨a0, i0, e0⟩ := wide_of w0 u0
  obtain ⟨a1, rfl, rfl, rfl, w1⟩ := open_int Try.underlying3 (hval 1 3 v1 rfl rfl) h1
  have n1 := bounds_i64 w1
  clear hA0 hval0
  simp only [List.append_nil] at hW'
  refine (walk e0 i0 a1 n1.1 n1.2 Z).mono fun e Z' ⟨he, hg⟩ => ?_
  subst he
  exact ⟨_, rfl, post_below (pa := []) (pv := []) hW' (fun _ _ _ => (trodAll_cons_mk (shut_bool Try.underlying4 _) trodAll_mk0)) (fun sp _ => (trodAll_cons_mk (shut_wide w0 u0) (trodAll_cons_mk (shut_int Try.underlying3 w1) trodAll_mk0))) (fun _ _ => rfl) hg.frame⟩

theorem over : Rows.exactRoundsRow.holds Try.pinned (OpenSpec.ofChange Rows.exactRoundsSpec) :=
  OpenClaim.holds_of_wide 9 Try.f9 rfl rfl rfl rfl rfl rfl rfl ⟨rfl, rfl, rfl, rfl, rfl⟩ rfl rfl rfl rfl rfl (by kernel_rfl) Try.func9 (by kernel_rfl)
    (of_decide_eq_true (by kernel_rfl)) (by unfold Func.isWrapper; first | (rw [if_pos (by decide +kernel)]; kernel_rfl) | (rw [if_neg (by decide +kernel)]; exact ⟨rfl, rfl⟩))
    (fun os started H enc _ => lifted os started H enc)

/-- The statement. -/
theorem proved : Rows.ExactRoundsSaid :=
  over
#print axioms proved
end Go.Proofs.Ytdppmppipbbepaa.roundsLaw

/-
  The statement DecimalRing holds for all ints. Conditions: the tables that its row lists hold what the text of the program lays in them; the card ties them to the pruned copy of the program.
-/
import Derived.Test.YtgfigcjbfigmiaaDoorLift
import Derived.Test.YtgfigcjbfigmiaaDoorFacts
namespace Go.Proofs.YtgfigcjbfigmiaaDoor.ring
open Go.ChangeShapes Go.WideShapes Go.ChangeAt Go.RowKit Go.Joins

set_option maxRecDepth 100000 in
set_option maxHeartbeats 2000000 in
theorem walk (a : Int) (a1 : -9223372036854775808 ≤ a) (a2 : a ≤ 9223372036854775807) (b : Int) (b1 : -9223372036854775808 ≤ b) (b2 : b ≤ 9223372036854775807) (w : World) (T : Tabs w) :
    Calls Tryd.prog 7 #[.int .i64 a, .int .i64 b] w fun e w' => e = .returned (.bool true) ∧ Below w.heap.size w w' := by
  have k0 := b0 w
  by_cases h : rg a = true ∧ rg b = true
  · obtain ⟨ra, rb⟩ := h
    obtain ⟨ra1, ra2⟩ := (rg_iff a).1 ra
    obtain ⟨rb1, rb2⟩ := (rg_iff b).1 rb
    have c1 : decide (a < -1152921504606846976) = false := by simp; omega
    have c2 : decide (1152921504606846976 < a) = false := by simp; omega
    have c3 : decide (b < -1152921504606846976) = false := by simp; omega
    have c4 : decide (1152921504606846976 < b) = false := by simp; omega
    obtain ⟨mx1, mx2⟩ := muX_range a b
    obtain ⟨dx1, dx2⟩ := diX_range a b
    obtain ⟨x, hx⟩ : ∃ x, muX a b = x := ⟨_, rfl⟩
    obtain ⟨y, hy⟩ : ∃ y, diX a b = y := ⟨_, rfl⟩
    obtain ⟨q, hq⟩ : ∃ q, muK a b = q := ⟨_, rfl⟩
    obtain ⟨r, hr⟩ : ∃ r, diK a b = r := ⟨_, rfl⟩
    obtain ⟨s, hs⟩ : ∃ s, adX a b = s := ⟨_, rfl⟩
    rw [hx] at mx1 mx2
    rw [hy] at dx1 dx2
    cases hp : adK a b
    · clear ra rb
      go_enter Tryd.func7, Tryd.ntmps7
      go_wp2_with fail
      refine (example_any _ T).mono ?_
      rintro e w1 ⟨rfl, hb⟩
      have k1 := bnext k0 hb
      clear hb k0
      go_wp2_with fail
      refine (add_dec a b _).mono ?_
      rw [hs, hp]
      rintro e w2 ⟨rfl, hb⟩
      have k2 := bnext k1 hb
      clear hb k1
      go_wp2_with fail
      refine (add_dec b a _).mono ?_
      rw [(adX_comm b a).1, (adX_comm b a).2, hs, hp]
      rintro e w3 ⟨rfl, hb⟩
      have k3 := bnext k2 hb
      clear hb k2
      go_wp2_with fail
      refine (is_same s false _).mono ?_
      rintro e w' ⟨rfl, rfl⟩
      go_wp2_with fail
      refine (sub_dec s b _).mono ?_
      rintro e w4 ⟨rfl, hb⟩
      have k4 := bnext k3 hb
      clear hb k3
      go_wp2_with fail
      refine (mul_dec a b _).mono ?_
      rw [hx, hq]
      rintro e w5 ⟨rfl, hb⟩
      have k5 := bnext k4 hb
      clear hb k4
      go_wp2_with fail
      refine (mul_dec b a _).mono ?_
      rw [(muX_comm b a).1, (muX_comm b a).2, hx, hq]
      rintro e w6 ⟨rfl, hb⟩
      have k6 := bnext k5 hb
      clear hb k5
      go_wp2_with fail
      refine (mul_dec (-a) b _).mono ?_
      rw [(muX_neg a b).1, (muX_neg a b).2, hx, hq]
      rintro e w7 ⟨rfl, hb⟩
      have k7 := bnext k6 hb
      clear hb k6
      go_wp2_with fail
      refine (is_same x q _).mono ?_
      rintro e w' ⟨rfl, rfl⟩
      go_wp2_with fail
      refine (is_same (-x) q _).mono ?_
      rintro e w' ⟨rfl, rfl⟩
      go_wp2_with fail
      refine (div_dec a b _).mono ?_
      rw [hy, hr]
      rintro e w8 ⟨rfl, hb⟩
      have k8 := bnext k7 hb
      clear hb k7
      go_wp2_with fail
      refine (div_dec (-a) b _).mono ?_
      rw [(diX_neg a b).1, (diX_neg a b).2, hy, hr]
      rintro e w9 ⟨rfl, hb⟩
      have k9 := bnext k8 hb
      clear hb k8
      go_wp2_with fail
      refine (div_dec (-a) (-b) _).mono ?_
      rw [(diX_neg2 a b).1, (diX_neg2 a b).2, hy, hr]
      rintro e w10 ⟨rfl, hb⟩
      have k10 := bnext k9 hb
      clear hb k9
      go_wp2_with fail
      refine (is_same (-y) r _).mono ?_
      rintro e w' ⟨rfl, rfl⟩
      go_wp2_with fail
      refine (is_same y r _).mono ?_
      rintro e w' ⟨rfl, rfl⟩
      go_wp2_with fail
      go_ret
      exact ⟨rfl, k10⟩
    · have HB := Lib.hid (sub_back hp)
      rw [hs] at HB
      clear ra rb
      go_enter Tryd.func7, Tryd.ntmps7
      go_wp2_with fail
      refine (example_any _ T).mono ?_
      rintro e w1 ⟨rfl, hb⟩
      have k1 := bnext k0 hb
      clear hb k0
      go_wp2_with fail
      refine (add_dec a b _).mono ?_
      rw [hs, hp]
      rintro e w2 ⟨rfl, hb⟩
      have k2 := bnext k1 hb
      clear hb k1
      go_wp2_with fail
      refine (add_dec b a _).mono ?_
      rw [(adX_comm b a).1, (adX_comm b a).2, hs, hp]
      rintro e w3 ⟨rfl, hb⟩
      have k3 := bnext k2 hb
      clear hb k2
      go_wp2_with fail
      refine (is_same s true _).mono ?_
      rintro e w' ⟨rfl, rfl⟩
      go_wp2_with fail
      refine (sub_dec s b _).mono ?_
      rw [HB.out.1, HB.out.2]
      rintro e w4 ⟨rfl, hb⟩
      have k4 := bnext k3 hb
      clear hb k3
      go_wp2_with fail
      refine (is_same a true _).mono ?_
      rintro e w' ⟨rfl, rfl⟩
      go_wp2_with fail
      refine (mul_dec a b _).mono ?_
      rw [hx, hq]
      rintro e w5 ⟨rfl, hb⟩
      have k5 := bnext k4 hb
      clear hb k4
      go_wp2_with fail
      refine (mul_dec b a _).mono ?_
      rw [(muX_comm b a).1, (muX_comm b a).2, hx, hq]
      rintro e w6 ⟨rfl, hb⟩
      have k6 := bnext k5 hb
      clear hb k5
      go_wp2_with fail
      refine (mul_dec (-a) b _).mono ?_
      rw [(muX_neg a b).1, (muX_neg a b).2, hx, hq]
      rintro e w7 ⟨rfl, hb⟩
      have k7 := bnext k6 hb
      clear hb k6
      go_wp2_with fail
      refine (is_same x q _).mono ?_
      rintro e w' ⟨rfl, rfl⟩
      go_wp2_with fail
      refine (is_same (-x) q _).mono ?_
      rintro e w' ⟨rfl, rfl⟩
      go_wp2_with fail
      refine (div_dec a b _).mono ?_
      rw [hy, hr]
      rintro e w8 ⟨rfl, hb⟩
      have k8 := bnext k7 hb
      clear hb k7
      go_wp2_with fail
      refine (div_dec (-a) b _).mono ?_
      rw [(diX_neg a b).1, (diX_neg a b).2, hy, hr]
      rintro e w9 ⟨rfl, hb⟩
      have k9 := bnext k8 hb
      clear hb k8
      go_wp2_with fail
      refine (div_dec (-a) (-b) _).mono ?_
      rw [(diX_neg2 a b).1, (diX_neg2 a b).2, hy, hr]
      rintro e w10 ⟨rfl, hb⟩
      have k10 := bnext k9 hb
      clear hb k9
      go_wp2_with fail
      refine (is_same (-y) r _).mono ?_
      rintro e w' ⟨rfl, rfl⟩
      go_wp2_with fail
      refine (is_same y r _).mono ?_
      rintro e w' ⟨rfl, rfl⟩
      go_wp2_with fail
      go_ret
      exact ⟨rfl, k10⟩
  · have o : rg a = false ∨ rg b = false := by
      cases ha : rg a
      · exact .inl rfl
      · cases hb : rg b
        · exact .inr rfl
        · exact absurd ⟨ha, hb⟩ h
    obtain ⟨o1, o2, o3, o4, _⟩ := out_all o
    have ho : a < -1152921504606846976 ∨ (1152921504606846976 < a ∧ ¬ a < -1152921504606846976) ∨ (b < -1152921504606846976 ∧ ¬ a < -1152921504606846976 ∧ ¬ 1152921504606846976 < a) ∨ (1152921504606846976 < b ∧ ¬ b < -1152921504606846976 ∧ ¬ a < -1152921504606846976 ∧ ¬ 1152921504606846976 < a) := by
      rw [rg_no, rg_no] at o
      omega
    clear h o
    rcases ho with g | ⟨g, g1⟩ | ⟨g, g1, g2⟩ | ⟨g, g1, g2, g3⟩
    · have c1 : decide (a < -1152921504606846976) = true := by simp; omega
      go_enter Tryd.func7, Tryd.ntmps7
      go_wp2_with fail
      refine (example_any _ T).mono ?_
      rintro e w1 ⟨rfl, hb⟩
      have k1 := bnext k0 hb
      clear hb k0
      go_wp2_with fail
      refine (add_dec a b _).mono ?_
      rw [o1]
      rintro e w2 ⟨rfl, hb⟩
      have k2 := bnext k1 hb
      clear hb k1
      go_wp2_with fail
      refine (sub_dec a b _).mono ?_
      rw [o2]
      rintro e w3 ⟨rfl, hb⟩
      have k3 := bnext k2 hb
      clear hb k2
      go_wp2_with fail
      refine (mul_dec a b _).mono ?_
      rw [o3]
      rintro e w4 ⟨rfl, hb⟩
      have k4 := bnext k3 hb
      clear hb k3
      go_wp2_with fail
      refine (div_dec a b _).mono ?_
      rw [o4]
      rintro e w5 ⟨rfl, hb⟩
      have k5 := bnext k4 hb
      clear hb k4
      go_wp2_with fail
      go_ret
      exact ⟨rfl, k5⟩
    · have c1 : decide (a < -1152921504606846976) = false := by simp; omega
      have c2 : decide (1152921504606846976 < a) = true := by simp; omega
      go_enter Tryd.func7, Tryd.ntmps7
      go_wp2_with fail
      refine (example_any _ T).mono ?_
      rintro e w1 ⟨rfl, hb⟩
      have k1 := bnext k0 hb
      clear hb k0
      go_wp2_with fail
      refine (add_dec a b _).mono ?_
      rw [o1]
      rintro e w2 ⟨rfl, hb⟩
      have k2 := bnext k1 hb
      clear hb k1
      go_wp2_with fail
      refine (sub_dec a b _).mono ?_
      rw [o2]
      rintro e w3 ⟨rfl, hb⟩
      have k3 := bnext k2 hb
      clear hb k2
      go_wp2_with fail
      refine (mul_dec a b _).mono ?_
      rw [o3]
      rintro e w4 ⟨rfl, hb⟩
      have k4 := bnext k3 hb
      clear hb k3
      go_wp2_with fail
      refine (div_dec a b _).mono ?_
      rw [o4]
      rintro e w5 ⟨rfl, hb⟩
      have k5 := bnext k4 hb
      clear hb k4
      go_wp2_with fail
      go_ret
      exact ⟨rfl, k5⟩
    · have c1 : decide (a < -1152921504606846976) = false := by simp; omega
      have c2 : decide (1152921504606846976 < a) = false := by simp; omega
      have c3 : decide (b < -1152921504606846976) = true := by simp; omega
      go_enter Tryd.func7, Tryd.ntmps7
      go_wp2_with fail
      refine (example_any _ T).mono ?_
      rintro e w1 ⟨rfl, hb⟩
      have k1 := bnext k0 hb
      clear hb k0
      go_wp2_with fail
      refine (add_dec a b _).mono ?_
      rw [o1]
      rintro e w2 ⟨rfl, hb⟩
      have k2 := bnext k1 hb
      clear hb k1
      go_wp2_with fail
      refine (sub_dec a b _).mono ?_
      rw [o2]
      rintro e w3 ⟨rfl, hb⟩
      have k3 := bnext k2 hb
      clear hb k2
      go_wp2_with fail
      refine (mul_dec a b _).mono ?_
      rw [o3]
      rintro e w4 ⟨rfl, hb⟩
      have k4 := bnext k3 hb
      clear hb k3
      go_wp2_with fail
      refine (div_dec a b _).mono ?_
      rw [o4]
      rintro e w5 ⟨rfl, hb⟩
      have k5 := bnext k4 hb
      clear hb k4
      go_wp2_with fail
      go_ret
      exact ⟨rfl, k5⟩
    · have c1 : decide (a < -1152921504606846976) = false := by simp; omega
      have c2 : decide (1152921504606846976 < a) = false := by simp; omega
      have c3 : decide (b < -1152921504606846976) = false := by simp; omega
      have c4 : decide (1152921504606846976 < b) = true := by simp; omega
      go_enter Tryd.func7, Tryd.ntmps7
      go_wp2_with fail
      refine (example_any _ T).mono ?_
      rintro e w1 ⟨rfl, hb⟩
      have k1 := bnext k0 hb
      clear hb k0
      go_wp2_with fail
      refine (add_dec a b _).mono ?_
      rw [o1]
      rintro e w2 ⟨rfl, hb⟩
      have k2 := bnext k1 hb
      clear hb k1
      go_wp2_with fail
      refine (sub_dec a b _).mono ?_
      rw [o2]
      rintro e w3 ⟨rfl, hb⟩
      have k3 := bnext k2 hb
      clear hb k2
      go_wp2_with fail
      refine (mul_dec a b _).mono ?_
      rw [o3]
      rintro e w4 ⟨rfl, hb⟩
      have k4 := bnext k3 hb
      clear hb k3
      go_wp2_with fail
      refine (div_dec a b _).mono ?_
      rw [o4]
      rintro e w5 ⟨rfl, hb⟩
      have k5 := bnext k4 hb
      clear hb k4
      go_wp2_with fail
      go_ret
      exact ⟨rfl, k5⟩

set_option maxRecDepth 100000 in
theorem lifted (os : Os) (started : os.Started) (H : Type) (enc : TypeId × Value → H) :
    ReturnsInHanded {} Tryd.checked os 7 .any (fun w args => (Rows.decimalRingSpec.pre enc Tryd.prog Tryd.f7 [] false w args ∧ laidMetH Tryd.prog laid4 w) ∧ sizedMet enc Tryd.prog Tryd.f7 (OpenSpec.ofChange Rows.decimalRingSpec) false w args)
      (Rows.decimalRingSpec.post enc Tryd.prog Tryd.f7 false true false false) := by
  refine returnsInHanded_of_change_and (C := Tryd.checked) (X := fun w _ => laidMetH Tryd.prog laid4 w) (fun _ _ _ hh h => h.of_heap hh) own started (by kernel_rfl) Tryd.func7
    (ChangeSpec.witness_shaped (enc := enc) (C := Tryd.checked) (os := os) (X := fun w _ => laidMetH Tryd.prog laid4 w) false (World.doorLaid Tryd.prog 29 os) #[.int .i64 0, .int .i64 0] 8 rfl (World.shaped_of_RefB (by kernel_rfl) (by kernel_rfl)) (by kernel_rfl) (by kernel_rfl) (by kernel_rfl) (door_met os _)) ?_
  intro Z base args ds gs before hval0 hW _ _ hL _
  have hval : ∀ (j : Nat) t v, Tryd.f7.params[j]? = some t → args[j]? = some v → Value.okWide Tryd.prog Z .any base t v := hval0
  have hW' := hW
  obtain ⟨p, q, hA0, hV, rfl, hfz, hnd⟩ := hW
  have hA : DataW.TrodAll enc Tryd.prog Z 0 (fun _ => true) true Tryd.f7.params.toList args.toList ds p := hA0
  rw [Tryd.params7] at hA hval
  obtain ⟨v0, vs0, d0, ds0, p0, q0, hargs, rfl, rfl, h0, r0⟩ := trodAll_cons hA
  obtain ⟨v1, vs1, d1, ds1, p1, q1, rfl, rfl, rfl, h1, r1⟩ := trodAll_cons r0
  obtain ⟨rfl, rfl, rfl⟩ := trodAll_nil r1
  obtain rfl : args = #[v0, v1] := by cases args; simp_all
  obtain ⟨rfl, rfl⟩ := trodVars_none hV
  obtain ⟨a0, rfl, rfl, rfl, w0⟩ := open_int Tryd.underlying3 (hval 0 3 v0 rfl rfl) h0
  have n0 := bounds_i64 w0
  obtain ⟨a1, rfl, rfl, rfl, w1⟩ := open_int Tryd.underlying3 (hval 1 3 v1 rfl rfl) h1
  have n1 := bounds_i64 w1
  clear hA0 hval0
  simp only [List.append_nil] at hW'
  refine (walk a0 n0.1 n0.2 a1 n1.1 n1.2 Z (tabs_of_laid hL)).mono fun e Z' ⟨he, hg⟩ => ?_
  subst he
  exact ⟨_, rfl, post_below (pa := []) (pv := []) hW' (fun _ _ _ => (trodAll_cons_mk (shut_bool Tryd.underlying4 _) trodAll_mk0)) (fun sp _ => (trodAll_cons_mk (shut_int Tryd.underlying3 w0) (trodAll_cons_mk (shut_int Tryd.underlying3 w1) trodAll_mk0))) (fun _ _ => rfl) hg.frame⟩

theorem over : Rows.DecimalRingSaid :=
  OpenClaim.holds_of_wide 7 Tryd.f7 rfl rfl rfl rfl rfl rfl rfl ⟨rfl, rfl, rfl, rfl, rfl⟩ rfl rfl rfl rfl rfl (by kernel_rfl) Tryd.func7 (by kernel_rfl)
    (of_decide_eq_true (by kernel_rfl)) (by unfold Func.isWrapper; first | (rw [if_pos (by decide +kernel)]; kernel_rfl) | (rw [if_neg (by decide +kernel)]; exact ⟨rfl, rfl⟩))
    (fun os started H enc _ => lifted os started H enc)

/-- The statement. -/
theorem proved : Rows.DecimalRingCardSaid :=
  Claim7.holds_tied_plain_at .later [] [.data, .data, .data, .data] true _ false
    over (fun _ h => by cases h) (by kernel_rfl) (fun _ h => by cases h) decimalRing_row_tie rfl ⟨rfl, rfl⟩ (by kernel_rfl) rfl
    (fun f fn hf hfn => by
      obtain rfl : f = 7 := Option.some.inj ((show Tryd.prog.funcNamed "asof/asoflaw02.DecimalRing" = some 7 by kernel_rfl).symm.trans hf) |>.symm
      obtain rfl : fn = Tryd.f7 := (Option.some.inj (Tryd.func7.symm.trans hfn)).symm
      exact ⟨by kernel_rfl, fun j t ht => by
        rw [Tryd.params7] at ht
        have hm : t ∈ [3, 3] := by simpa using Array.mem_of_getElem? ht
        have hall : ([3, 3].all fun u => !Tryd.prog.wantsStandIn u) = true := by kernel_rfl
        exact (show Tryd.prog.wantsStandIn t = false by simpa using List.all_eq_true.1 hall t hm)⟩)
    (by kernel_rfl)
#print axioms proved
end Go.Proofs.YtgfigcjbfigmiaaDoor.ring

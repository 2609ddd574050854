/-
  The statement DecimalMissing holds for all ints. Conditions: the tables that its row lists hold what the text of the program lays in them; the card ties them to the pruned copy of the program.
-/
import Derived.Test.YtgfigcjbfigmiaaDoorLift
import Derived.Test.YtgfigcjbfigmiaaDoorFacts2
namespace Go.Proofs.YtgfigcjbfigmiaaDoor.missing
open Go.ChangeShapes Go.WideShapes Go.ChangeAt Go.RowKit Go.Joins

theorem outside (a : Int) (a1 : -9223372036854775808 ≤ a) (a2 : a ≤ 9223372036854775807) (b : Int) (b1 : -9223372036854775808 ≤ b) (b2 : b ≤ 9223372036854775807) (o : rg a = false ∨ rg b = false) (w : World) (T : Tabs w) :
    Calls Tryd.prog 6 #[.int .i64 a, .int .i64 b] w fun e w' => e = .returned (.bool true) ∧ Below w.heap.size w w' := by
  have k0 := b0 w
  have ho : a < -1152921504606846976 ∨ (1152921504606846976 < a ∧ ¬ a < -1152921504606846976) ∨ (b < -1152921504606846976 ∧ ¬ a < -1152921504606846976 ∧ ¬ 1152921504606846976 < a) ∨ (1152921504606846976 < b ∧ ¬ b < -1152921504606846976 ∧ ¬ a < -1152921504606846976 ∧ ¬ 1152921504606846976 < a) := by
    rw [rg_no, rg_no] at o
    omega
  clear o
  rcases ho with g | ⟨g, g1⟩ | ⟨g, g1, g2⟩ | ⟨g, g1, g2, g3⟩
  · have c1 : decide (a < -1152921504606846976) = true := by simp; omega
    go_enter Tryd.func6, Tryd.ntmps6
    go_wp2_with fail
    refine (example_any _ T).mono ?_
    rintro e w1 ⟨rfl, hb⟩
    have k1 := bnext k0 hb
    clear hb k0
    go_wp2_with fail
    go_ret
    exact ⟨rfl, k1⟩
  · have c1 : decide (a < -1152921504606846976) = false := by simp; omega
    have c2 : decide (1152921504606846976 < a) = true := by simp; omega
    go_enter Tryd.func6, Tryd.ntmps6
    go_wp2_with fail
    refine (example_any _ T).mono ?_
    rintro e w1 ⟨rfl, hb⟩
    have k1 := bnext k0 hb
    clear hb k0
    go_wp2_with fail
    go_ret
    exact ⟨rfl, k1⟩
  · have c1 : decide (a < -1152921504606846976) = false := by simp; omega
    have c2 : decide (1152921504606846976 < a) = false := by simp; omega
    have c3 : decide (b < -1152921504606846976) = true := by simp; omega
    go_enter Tryd.func6, Tryd.ntmps6
    go_wp2_with fail
    refine (example_any _ T).mono ?_
    rintro e w1 ⟨rfl, hb⟩
    have k1 := bnext k0 hb
    clear hb k0
    go_wp2_with fail
    go_ret
    exact ⟨rfl, k1⟩
  · have c1 : decide (a < -1152921504606846976) = false := by simp; omega
    have c2 : decide (1152921504606846976 < a) = false := by simp; omega
    have c3 : decide (b < -1152921504606846976) = false := by simp; omega
    have c4 : decide (1152921504606846976 < b) = true := by simp; omega
    go_enter Tryd.func6, Tryd.ntmps6
    go_wp2_with fail
    refine (example_any _ T).mono ?_
    rintro e w1 ⟨rfl, hb⟩
    have k1 := bnext k0 hb
    clear hb k0
    go_wp2_with fail
    go_ret
    exact ⟨rfl, k1⟩
set_option maxRecDepth 100000 in
set_option maxHeartbeats 2000000 in
theorem inside (a : Int) (a1 : -9223372036854775808 ≤ a) (a2 : a ≤ 9223372036854775807) (b : Int) (b1 : -9223372036854775808 ≤ b) (b2 : b ≤ 9223372036854775807) (ra : rg a = true) (rb : rg b = true) (w : World) (T : Tabs w) :
    Calls Tryd.prog 6 #[.int .i64 a, .int .i64 b] w fun e w' => e = .returned (.bool true) ∧ Below w.heap.size w w' := by
  have k0 := b0 w
  obtain ⟨ra1, ra2⟩ := (rg_iff a).1 ra
  obtain ⟨rb1, rb2⟩ := (rg_iff b).1 rb
  have c1 : decide (a < -1152921504606846976) = false := by simp; omega
  have c2 : decide (1152921504606846976 < a) = false := by simp; omega
  have c3 : decide (b < -1152921504606846976) = false := by simp; omega
  have c4 : decide (1152921504606846976 < b) = false := by simp; omega
  obtain ⟨p, hp⟩ : ∃ p, max a (-a) = p := ⟨_, rfl⟩
  obtain ⟨q, hq⟩ : ∃ q, max b (-b) = q := ⟨_, rfl⟩
  have ep : ab a = p := by unfold ab; split <;> omega
  have eq : ab b = q := by unfold ab; split <;> omega
  have p0 : 0 ≤ p := by omega
  have q0 : 0 ≤ q := by omega
  have p1 : p ≤ 1152921504606846976 := by omega
  have q1 : q ≤ 1152921504606846976 := by omega
  have HM0 := fun h => miss_mul (a := a) (b := b) ra rb ep eq h
  have HD0 := fun h h' => miss_div (a := a) (b := b) ra rb ep eq h h'
  obtain ⟨t, ht⟩ : ∃ t, p * q = t := ⟨_, rfl⟩
  obtain ⟨z, hz⟩ : ∃ z, (1000000 : Int) * 1152921504606846976 = z := ⟨_, rfl⟩
  obtain ⟨u, hu⟩ : ∃ u, 1000000 * p = u := ⟨_, rfl⟩
  obtain ⟨v, hv⟩ : ∃ v, 1152921504606846976 * q = v := ⟨_, rfl⟩
  have ip : In t := ht ▸ mul_in (by omega) (by omega) (by omega) (by omega)
  have im : In z := hz ▸ mul_in (by decide) (by decide) (by decide) (by decide)
  have iq : In u := hu ▸ mul_in (by decide) (by decide) (by omega) (by omega)
  have ir : In v := hv ▸ mul_in (by decide) (by decide) (by omega) (by omega)
  rw [ht, hz] at HM0
  rw [hu, hv] at HD0
  have HM := Lib.hid HM0
  have HD := Lib.hid HD0
  have HT := Lib.hid ht
  have HZ := Lib.hid hz
  have HU := Lib.hid hu
  have HV := Lib.hid hv
  clear HM0 HD0 ht hz hu hv
  clear ra rb ep eq
  cases hok : muK a b
  · replace HM := Lib.hid (HM.out hok)
    cases hfine : diK a b
    · by_cases g : b = 0
      · subst g
        clear HD
        obtain rfl : q = 0 := by omega
        go_enter Tryd.func6, Tryd.ntmps6
        go_wp2_with fail
        refine (example_any _ T).mono ?_
        rintro e w1 ⟨rfl, hb⟩
        have k1 := bnext k0 hb
        clear hb k0
        go_wp2_with fail
        refine (mul_dec a 0 _).mono ?_
        rw [hok]
        rintro e w2 ⟨rfl, hb⟩
        have k2 := bnext k1 hb
        clear hb k1
        go_wp2_with fail
        refine (mul_u p 0 _ (by omega) (by omega) (by omega) (by omega)).mono ?_
        rw [HT.out]
        rintro e w3 ⟨rfl, hb⟩
        have k3 := bnext k2 hb
        clear hb k2
        go_wp2_with fail
        refine (mul_u 1000000 1152921504606846976 _ (by decide) (by decide) (by decide) (by decide)).mono ?_
        rw [HZ.out]
        rintro e w4 ⟨rfl, hb⟩
        have k4 := bnext k3 hb
        clear hb k3
        go_wp2_with fail
        refine (compare_u ip im _).mono ?_
        rw [HM.out]
        rintro e w5 ⟨rfl, hb⟩
        have k5 := bnext k4 hb
        clear hb k4
        go_wp2_with fail
        refine (div_dec a 0 _).mono ?_
        rw [hfine]
        rintro e w6 ⟨rfl, hb⟩
        have k6 := bnext k5 hb
        clear hb k5
        go_wp2_with fail
        go_ret
        exact ⟨rfl, k6⟩
      · have g' : (b == 0) = false := by rw [beq_eq_false_iff_ne]; exact g
        replace HD := Lib.hid (HD.out g hfine)
        go_enter Tryd.func6, Tryd.ntmps6
        go_wp2_with fail
        refine (example_any _ T).mono ?_
        rintro e w1 ⟨rfl, hb⟩
        have k1 := bnext k0 hb
        clear hb k0
        go_wp2_with fail
        refine (mul_dec a b _).mono ?_
        rw [hok]
        rintro e w2 ⟨rfl, hb⟩
        have k2 := bnext k1 hb
        clear hb k1
        go_wp2_with fail
        refine (mul_u p q _ (by omega) (by omega) (by omega) (by omega)).mono ?_
        rw [HT.out]
        rintro e w3 ⟨rfl, hb⟩
        have k3 := bnext k2 hb
        clear hb k2
        go_wp2_with fail
        refine (mul_u 1000000 1152921504606846976 _ (by decide) (by decide) (by decide) (by decide)).mono ?_
        rw [HZ.out]
        rintro e w4 ⟨rfl, hb⟩
        have k4 := bnext k3 hb
        clear hb k3
        go_wp2_with fail
        refine (compare_u ip im _).mono ?_
        rw [HM.out]
        rintro e w5 ⟨rfl, hb⟩
        have k5 := bnext k4 hb
        clear hb k4
        go_wp2_with fail
        refine (div_dec a b _).mono ?_
        rw [hfine]
        rintro e w6 ⟨rfl, hb⟩
        have k6 := bnext k5 hb
        clear hb k5
        go_wp2_with fail
        refine (mul_u 1000000 p _ (by decide) (by decide) (by omega) (by omega)).mono ?_
        rw [HU.out]
        rintro e w7 ⟨rfl, hb⟩
        have k7 := bnext k6 hb
        clear hb k6
        go_wp2_with fail
        refine (mul_u 1152921504606846976 q _ (by decide) (by decide) (by omega) (by omega)).mono ?_
        rw [HV.out]
        rintro e w8 ⟨rfl, hb⟩
        have k8 := bnext k7 hb
        clear hb k7
        go_wp2_with fail
        refine (compare_u iq ir _).mono ?_
        rw [HD.out]
        rintro e w9 ⟨rfl, hb⟩
        have k9 := bnext k8 hb
        clear hb k8
        go_wp2_with fail
        go_ret
        exact ⟨rfl, k9⟩
    · clear HD
      go_enter Tryd.func6, Tryd.ntmps6
      go_wp2_with fail
      refine (example_any _ T).mono ?_
      rintro e w1 ⟨rfl, hb⟩
      have k1 := bnext k0 hb
      clear hb k0
      go_wp2_with fail
      refine (mul_dec a b _).mono ?_
      rw [hok]
      rintro e w2 ⟨rfl, hb⟩
      have k2 := bnext k1 hb
      clear hb k1
      go_wp2_with fail
      refine (mul_u p q _ (by omega) (by omega) (by omega) (by omega)).mono ?_
      rw [HT.out]
      rintro e w3 ⟨rfl, hb⟩
      have k3 := bnext k2 hb
      clear hb k2
      go_wp2_with fail
      refine (mul_u 1000000 1152921504606846976 _ (by decide) (by decide) (by decide) (by decide)).mono ?_
      rw [HZ.out]
      rintro e w4 ⟨rfl, hb⟩
      have k4 := bnext k3 hb
      clear hb k3
      go_wp2_with fail
      refine (compare_u ip im _).mono ?_
      rw [HM.out]
      rintro e w5 ⟨rfl, hb⟩
      have k5 := bnext k4 hb
      clear hb k4
      go_wp2_with fail
      refine (div_dec a b _).mono ?_
      rw [hfine]
      rintro e w6 ⟨rfl, hb⟩
      have k6 := bnext k5 hb
      clear hb k5
      go_wp2_with fail
      go_ret
      exact ⟨rfl, k6⟩
  · clear HM
    cases hfine : diK a b
    · by_cases g : b = 0
      · subst g
        clear HD
        obtain rfl : q = 0 := by omega
        go_enter Tryd.func6, Tryd.ntmps6
        go_wp2_with fail
        refine (example_any _ T).mono ?_
        rintro e w1 ⟨rfl, hb⟩
        have k1 := bnext k0 hb
        clear hb k0
        go_wp2_with fail
        refine (mul_dec a 0 _).mono ?_
        rw [hok]
        rintro e w2 ⟨rfl, hb⟩
        have k2 := bnext k1 hb
        clear hb k1
        go_wp2_with fail
        refine (div_dec a 0 _).mono ?_
        rw [hfine]
        rintro e w3 ⟨rfl, hb⟩
        have k3 := bnext k2 hb
        clear hb k2
        go_wp2_with fail
        go_ret
        exact ⟨rfl, k3⟩
      · have g' : (b == 0) = false := by rw [beq_eq_false_iff_ne]; exact g
        replace HD := Lib.hid (HD.out g hfine)
        go_enter Tryd.func6, Tryd.ntmps6
        go_wp2_with fail
        refine (example_any _ T).mono ?_
        rintro e w1 ⟨rfl, hb⟩
        have k1 := bnext k0 hb
        clear hb k0
        go_wp2_with fail
        refine (mul_dec a b _).mono ?_
        rw [hok]
        rintro e w2 ⟨rfl, hb⟩
        have k2 := bnext k1 hb
        clear hb k1
        go_wp2_with fail
        refine (div_dec a b _).mono ?_
        rw [hfine]
        rintro e w3 ⟨rfl, hb⟩
        have k3 := bnext k2 hb
        clear hb k2
        go_wp2_with fail
        refine (mul_u 1000000 p _ (by decide) (by decide) (by omega) (by omega)).mono ?_
        rw [HU.out]
        rintro e w4 ⟨rfl, hb⟩
        have k4 := bnext k3 hb
        clear hb k3
        go_wp2_with fail
        refine (mul_u 1152921504606846976 q _ (by decide) (by decide) (by omega) (by omega)).mono ?_
        rw [HV.out]
        rintro e w5 ⟨rfl, hb⟩
        have k5 := bnext k4 hb
        clear hb k4
        go_wp2_with fail
        refine (compare_u iq ir _).mono ?_
        rw [HD.out]
        rintro e w6 ⟨rfl, hb⟩
        have k6 := bnext k5 hb
        clear hb k5
        go_wp2_with fail
        go_ret
        exact ⟨rfl, k6⟩
    · clear HD
      go_enter Tryd.func6, Tryd.ntmps6
      go_wp2_with fail
      refine (example_any _ T).mono ?_
      rintro e w1 ⟨rfl, hb⟩
      have k1 := bnext k0 hb
      clear hb k0
      go_wp2_with fail
      refine (mul_dec a b _).mono ?_
      rw [hok]
      rintro e w2 ⟨rfl, hb⟩
      have k2 := bnext k1 hb
      clear hb k1
      go_wp2_with fail
      refine (div_dec a b _).mono ?_
      rw [hfine]
      rintro e w3 ⟨rfl, hb⟩
      have k3 := bnext k2 hb
      clear hb k2
      go_wp2_with fail
      go_ret
      exact ⟨rfl, k3⟩

theorem walk (a : Int) (a1 : -9223372036854775808 ≤ a) (a2 : a ≤ 9223372036854775807) (b : Int) (b1 : -9223372036854775808 ≤ b) (b2 : b ≤ 9223372036854775807) (w : World) (T : Tabs w) :
    Calls Tryd.prog 6 #[.int .i64 a, .int .i64 b] w fun e w' => e = .returned (.bool true) ∧ Below w.heap.size w w' := by
  cases ha : rg a
  · exact outside a a1 a2 b b1 b2 (.inl ha) w T
  · cases hb : rg b
    · exact outside a a1 a2 b b1 b2 (.inr hb) w T
    · exact inside a a1 a2 b b1 b2 ha hb w T

set_option maxRecDepth 100000 in
theorem lifted (os : Os) (started : os.Started) (H : Type) (enc : TypeId × Value → H) :
    ReturnsInHanded {} Tryd.checked os 6 .any (fun w args => (Rows.decimalMissingSpec.pre enc Tryd.prog Tryd.f6 [] false w args ∧ laidMetH Tryd.prog laid4 w) ∧ sizedMet enc Tryd.prog Tryd.f6 (OpenSpec.ofChange Rows.decimalMissingSpec) false w args)
      (Rows.decimalMissingSpec.post enc Tryd.prog Tryd.f6 false true false false) := by
  refine returnsInHanded_of_change_and (C := Tryd.checked) (X := fun w _ => laidMetH Tryd.prog laid4 w) (fun _ _ _ hh h => h.of_heap hh) own started (by kernel_rfl) Tryd.func6
    (ChangeSpec.witness_shaped (enc := enc) (C := Tryd.checked) (os := os) (X := fun w _ => laidMetH Tryd.prog laid4 w) false (World.doorLaid Tryd.prog 29 os) #[.int .i64 0, .int .i64 0] 8 rfl (World.shaped_of_RefB (by kernel_rfl) (by kernel_rfl)) (by kernel_rfl) (by kernel_rfl) (by kernel_rfl) (door_met os _)) ?_
  intro Z base args ds gs before hval0 hW _ _ hL _
  have hval : ∀ (j : Nat) t v, Tryd.f6.params[j]? = some t → args[j]? = some v → Value.okWide Tryd.prog Z .any base t v := hval0
  have hW' := hW
  obtain ⟨p, q, hA0, hV, rfl, hfz, hnd⟩ := hW
  have hA : DataW.TrodAll enc Tryd.prog Z 0 (fun _ => true) true Tryd.f6.params.toList args.toList ds p := hA0
  rw [Tryd.params6] at hA hval
  obtain ⟨v0, vs0, d0, ds0, p0, q0, hargs, rfl, rfl, h0, r0⟩ := trodAll_cons hA
  obtain ⟨v1, vs1, d1, ds1, p1, q1, rfl, rfl, rfl, h1, r1⟩ := trodAll_cons r0
  obtain ⟨rfl, rfl, rfl⟩ := trodAll_nil r1
  obtain rfl : args = #[v0, v1] := by cases args; simp_all
  obtain ⟨rfl, rfl⟩ := trodVars_none hV
  obtain ⟨a0, rfl, rfl, rfl, w0⟩ := open_int Tryd.underlying3 (hval 0 3 v0 rfl rfl) h0
  have n0 := bounds_i64 w0
  obtain ⟨a1, rfl, rfl, rfl, w1⟩ := open_int Tryd.underlying3 (hval 1 3 v1 rfl rfl) h1
  have n1 := bounds_i64 w1
  clear hA0 hval0
  simp only [List.append_nil] at hW'
  refine (walk a0 n0.1 n0.2 a1 n1.1 n1.2 Z (tabs_of_laid hL)).mono fun e Z' ⟨he, hg⟩ => ?_
  subst he
  exact ⟨_, rfl, post_below (pa := []) (pv := []) hW' (fun _ _ _ => (trodAll_cons_mk (shut_bool Tryd.underlying4 _) trodAll_mk0)) (fun sp _ => (trodAll_cons_mk (shut_int Tryd.underlying3 w0) (trodAll_cons_mk (shut_int Tryd.underlying3 w1) trodAll_mk0))) (fun _ _ => rfl) hg.frame⟩

theorem over : Rows.DecimalMissingSaid :=
  OpenClaim.holds_of_wide 6 Tryd.f6 rfl rfl rfl rfl rfl rfl rfl ⟨rfl, rfl, rfl, rfl, rfl⟩ rfl rfl rfl rfl rfl (by kernel_rfl) Tryd.func6 (by kernel_rfl)
    (of_decide_eq_true (by kernel_rfl)) (by unfold Func.isWrapper; first | (rw [if_pos (by decide +kernel)]; kernel_rfl) | (rw [if_neg (by decide +kernel)]; exact ⟨rfl, rfl⟩))
    (fun os started H enc _ => lifted os started H enc)

/-- The statement. -/
theorem proved : Rows.DecimalMissingCardSaid :=
  Claim7.holds_tied_plain_at .later [] [.data, .data, .data, .data] true _ false
    over (fun _ h => by cases h) (by kernel_rfl) (fun _ h => by cases h) decimalMissing_row_tie rfl ⟨rfl, rfl⟩ (by kernel_rfl) rfl
    (fun f fn hf hfn => by
      obtain rfl : f = 6 := Option.some.inj ((show Tryd.prog.funcNamed "asof/asoflaw02.DecimalMissing" = some 6 by kernel_rfl).symm.trans hf) |>.symm
      obtain rfl : fn = Tryd.f6 := (Option.some.inj (Tryd.func6.symm.trans hfn)).symm
      exact ⟨by kernel_rfl, fun j t ht => by
        rw [Tryd.params6] at ht
        have hm : t ∈ [3, 3] := by simpa using Array.mem_of_getElem? ht
        have hall : ([3, 3].all fun u => !Tryd.prog.wantsStandIn u) = true := by kernel_rfl
        exact (show Tryd.prog.wantsStandIn t = false by simpa using List.all_eq_true.1 hall t hm)⟩)
    (by kernel_rfl)
#print axioms proved
end Go.Proofs.YtgfigcjbfigmiaaDoor.missing

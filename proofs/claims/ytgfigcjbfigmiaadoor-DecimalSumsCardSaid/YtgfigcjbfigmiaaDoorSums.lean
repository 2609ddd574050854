/-
  The statement DecimalSums holds for all ints. Conditions: the tables that its row lists hold what the text of the program lays in them; the card ties them to the pruned copy of the program.
-/
import Derived.Test.YtgfigcjbfigmiaaDoorLift
import Derived.Test.YtgfigcjbfigmiaaDoorRef2
namespace Go.Proofs.YtgfigcjbfigmiaaDoor.sums
open Go.ChangeShapes Go.WideShapes Go.ChangeAt Go.RowKit Go.Joins

set_option maxRecDepth 100000 in
set_option maxHeartbeats 2000000 in
theorem walk (a : Int) (a1 : -9223372036854775808 ≤ a) (a2 : a ≤ 9223372036854775807) (b : Int) (_b1 : -9223372036854775808 ≤ b) (_b2 : b ≤ 9223372036854775807) (w : World) (T : Tabs w) :
    Calls Tryd.prog 3 #[.int .i64 a, .int .i64 b] w fun e w' => e = .returned (.bool true) ∧ Below w.heap.size w w' := by
  have k0 := b0 w
  obtain ⟨x, hx⟩ : ∃ x, kx (a * 1000000) = x := ⟨_, rfl⟩
  obtain ⟨p, hp⟩ : ∃ x, rg (a * 1000000) = x := ⟨_, rfl⟩
  obtain ⟨t, ht⟩ : ∃ x, ti a = x := ⟨_, rfl⟩
  obtain ⟨s, hs⟩ : ∃ x, adX a b = x := ⟨_, rfl⟩
  obtain ⟨q, hq⟩ : ∃ x, adK a b = x := ⟨_, rfl⟩
  obtain ⟨d, hd⟩ : ∃ x, suX a b = x := ⟨_, rfl⟩
  obtain ⟨r, hr⟩ : ∃ x, suK a b = x := ⟨_, rfl⟩
  go_enter Tryd.func3, Tryd.ntmps3
  go_wp2_with fail
  refine (example_any _ T).mono ?_
  rintro e w1 ⟨rfl, hb⟩
  have k1 := bnext k0 hb
  clear hb k0
  go_wp2_with fail
  refine (fromInt_any a _ a1 a2).mono ?_
  rw [hx, hp]
  rintro e w2 ⟨rfl, hb⟩
  have k2 := bnext k1 hb
  clear hb k1
  go_wp2_with fail
  refine (refFromInt_any a _ a1 a2).mono ?_
  rw [hx, hp]
  rintro e w' ⟨rfl, rfl⟩
  go_wp2_with fail
  refine (is_same x p _).mono ?_
  rintro e w' ⟨rfl, rfl⟩
  go_wp2_with fail
  refine (toInt_any a _ a1 a2).mono ?_
  rw [ht]
  rintro e w3 ⟨rfl, hb⟩
  have k3 := bnext k2 hb
  clear hb k2
  go_wp2_with fail
  refine (refToInt_any a _ a1 a2).mono ?_
  rw [ht]
  rintro e w' ⟨rfl, rfl⟩
  go_wp2_with fail
  refine (add_dec a b _).mono ?_
  rw [hs, hq]
  rintro e w4 ⟨rfl, hb⟩
  have k4 := bnext k3 hb
  clear hb k3
  go_wp2_with fail
  refine (refAdd_any a b _).mono ?_
  rw [hs, hq]
  rintro e w' ⟨rfl, rfl⟩
  go_wp2_with fail
  refine (is_same s q _).mono ?_
  rintro e w' ⟨rfl, rfl⟩
  go_wp2_with fail
  refine (sub_dec a b _).mono ?_
  rw [hd, hr]
  rintro e w5 ⟨rfl, hb⟩
  have k5 := bnext k4 hb
  clear hb k4
  go_wp2_with fail
  refine (refSub_any a b _).mono ?_
  rw [hd, hr]
  rintro e w' ⟨rfl, rfl⟩
  go_wp2_with fail
  refine (is_same d r _).mono ?_
  rintro e w' ⟨rfl, rfl⟩
  go_wp2_with fail
  go_ret
  exact ⟨rfl, k5⟩

set_option maxRecDepth 100000 in
theorem lifted (os : Os) (started : os.Started) (H : Type) (enc : TypeId × Value → H) :
    ReturnsInHanded {} Tryd.checked os 3 .any (fun w args => (Rows.decimalSumsSpec.pre enc Tryd.prog Tryd.f3 [] false w args ∧ laidMetH Tryd.prog laid4 w) ∧ sizedMet enc Tryd.prog Tryd.f3 (OpenSpec.ofChange Rows.decimalSumsSpec) false w args)
      (Rows.decimalSumsSpec.post enc Tryd.prog Tryd.f3 false true false false) := by
  refine returnsInHanded_of_change_and (C := Tryd.checked) (X := fun w _ => laidMetH Tryd.prog laid4 w) (fun _ _ _ hh h => h.of_heap hh) own started (by kernel_rfl) Tryd.func3
    (ChangeSpec.witness_shaped (enc := enc) (C := Tryd.checked) (os := os) (X := fun w _ => laidMetH Tryd.prog laid4 w) false (World.doorLaid Tryd.prog 29 os) #[.int .i64 0, .int .i64 0] 8 rfl (World.shaped_of_RefB (by kernel_rfl) (by kernel_rfl)) (by kernel_rfl) (by kernel_rfl) (by kernel_rfl) (door_met os _)) ?_
  intro Z base args ds gs before hval0 hW _ _ hL _
  have hval : ∀ (j : Nat) t v, Tryd.f3.params[j]? = some t → args[j]? = some v → Value.okWide Tryd.prog Z .any base t v := hval0
  have hW' := hW
  obtain ⟨p, q, hA0, hV, rfl, hfz, hnd⟩ := hW
  have hA : DataW.TrodAll enc Tryd.prog Z 0 (fun _ => true) true Tryd.f3.params.toList args.toList ds p := hA0
  rw [Tryd.params3] at hA hval
  obtain ⟨v0, vs0, d0, ds0, p0, q0, hargs, rfl, rfl, h0, r0⟩ := trodAll_cons hA
  obtain ⟨v1, vs1, d1, ds1, p1, q1, rfl, rfl, rfl, h1, r1⟩ := trodAll_cons r0
  obtain ⟨rfl, rfl, rfl⟩ := trodAll_nil r1
  obtain rfl : args = #[v0, v1] := by cases args; simp_all
  obtain ⟨rfl, rfl⟩ := trodVars_none hV
  obtain ⟨a0, rfl, rfl, rfl, w0⟩ := open_int Tryd.underlying3 (hval 0 3 v0 rfl rfl) h0
  have n0 := bounds_i64 w0
  obtain ⟨a1, rfl, rfl, rfl, w1⟩ := open_int Tryd.underlying3 (hval 1 3 v1 rfl rfl) h1
  have n1 := bounds_i64 w1
  clear hA0 hval0
  simp only [List.append_nil] at hW'
  refine (walk a0 n0.1 n0.2 a1 n1.1 n1.2 Z (tabs_of_laid hL)).mono fun e Z' ⟨he, hg⟩ => ?_
  subst he
  exact ⟨_, rfl, post_below (pa := []) (pv := []) hW' (fun _ _ _ => (trodAll_cons_mk (shut_bool Tryd.underlying4 _) trodAll_mk0)) (fun sp _ => (trodAll_cons_mk (shut_int Tryd.underlying3 w0) (trodAll_cons_mk (shut_int Tryd.underlying3 w1) trodAll_mk0))) (fun _ _ => rfl) hg.frame⟩

theorem over : Rows.DecimalSumsSaid :=
  OpenClaim.holds_of_wide 3 Tryd.f3 rfl rfl rfl rfl rfl rfl rfl ⟨rfl, rfl, rfl, rfl, rfl⟩ rfl rfl rfl rfl rfl (by kernel_rfl) Tryd.func3 (by kernel_rfl)
    (of_decide_eq_true (by kernel_rfl)) (by unfold Func.isWrapper; first | (rw [if_pos (by decide +kernel)]; kernel_rfl) | (rw [if_neg (by decide +kernel)]; exact ⟨rfl, rfl⟩))
    (fun os started H enc _ => lifted os started H enc)

/-- The statement. -/
theorem proved : Rows.DecimalSumsCardSaid :=
  Claim7.holds_tied_plain_at .later [] [.data, .data, .data, .data] true _ false
    over (fun _ h => by cases h) (by kernel_rfl) (fun _ h => by cases h) decimalSums_row_tie rfl ⟨rfl, rfl⟩ (by kernel_rfl) rfl
    (fun f fn hf hfn => by
      obtain rfl : f = 3 := Option.some.inj ((show Tryd.prog.funcNamed "asof/asoflaw02.DecimalSums" = some 3 by kernel_rfl).symm.trans hf) |>.symm
      obtain rfl : fn = Tryd.f3 := (Option.some.inj (Tryd.func3.symm.trans hfn)).symm
      exact ⟨by kernel_rfl, fun j t ht => by
        rw [Tryd.params3] at ht
        have hm : t ∈ [3, 3] := by simpa using Array.mem_of_getElem? ht
        have hall : ([3, 3].all fun u => !Tryd.prog.wantsStandIn u) = true := by kernel_rfl
        exact (show Tryd.prog.wantsStandIn t = false by simpa using List.all_eq_true.1 hall t hm)⟩)
    (by kernel_rfl)
#print axioms proved
end Go.Proofs.YtgfigcjbfigmiaaDoor.sums

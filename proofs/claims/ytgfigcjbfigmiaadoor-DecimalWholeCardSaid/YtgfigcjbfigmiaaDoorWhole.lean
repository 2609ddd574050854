/-
  The statement DecimalWhole holds for all ints. Conditions: the tables that its row lists hold what the text of the program lays in them; the card ties them to the pruned copy of the program.
-/
import Derived.Test.YtgfigcjbfigmiaaDoorLift
import Derived.Test.YtgfigcjbfigmiaaDoorFacts
namespace Go.Proofs.YtgfigcjbfigmiaaDoor.whole
open Go.ChangeShapes Go.WideShapes Go.ChangeAt Go.RowKit Go.Joins

theorem out1 (m : Int) (m1 : -9223372036854775808 ≤ m) (m2 : m ≤ 9223372036854775807) (n : Int) (n1 : -9223372036854775808 ≤ n) (n2 : n ≤ 9223372036854775807) (hp : rg (m * 1000000) = false) (w : World) (T : Tabs w) :
    Calls Tryd.prog 9 #[.int .i64 m, .int .i64 n] w fun e w' => e = .returned (.bool true) ∧ Below w.heap.size w w' := by
  have k0 := b0 w
  go_enter Tryd.func9, Tryd.ntmps9
  go_wp2_with fail
  refine (example_any _ T).mono ?_
  rintro e w1 ⟨rfl, hb⟩
  have k1 := bnext k0 hb
  clear hb k0
  go_wp2_with fail
  refine (fromInt_any m _ m1 m2).mono ?_
  rw [hp]
  rintro e w2 ⟨rfl, hb⟩
  have k2 := bnext k1 hb
  clear hb k1
  go_wp2_with fail
  refine (fromInt_any n _ n1 n2).mono ?_
  rintro e w3 ⟨rfl, hb⟩
  have k3 := bnext k2 hb
  clear hb k2
  go_wp2_with fail
  go_ret
  exact ⟨rfl, k3⟩

theorem out2 (m : Int) (m1 : -9223372036854775808 ≤ m) (m2 : m ≤ 9223372036854775807) (n : Int) (n1 : -9223372036854775808 ≤ n) (n2 : n ≤ 9223372036854775807) (hp : rg (m * 1000000) = true) (hq : rg (n * 1000000) = false) (w : World) (T : Tabs w) :
    Calls Tryd.prog 9 #[.int .i64 m, .int .i64 n] w fun e w' => e = .returned (.bool true) ∧ Below w.heap.size w w' := by
  have k0 := b0 w
  go_enter Tryd.func9, Tryd.ntmps9
  go_wp2_with fail
  refine (example_any _ T).mono ?_
  rintro e w1 ⟨rfl, hb⟩
  have k1 := bnext k0 hb
  clear hb k0
  go_wp2_with fail
  refine (fromInt_any m _ m1 m2).mono ?_
  rw [hp]
  rintro e w2 ⟨rfl, hb⟩
  have k2 := bnext k1 hb
  clear hb k1
  go_wp2_with fail
  refine (fromInt_any n _ n1 n2).mono ?_
  rw [hq]
  rintro e w3 ⟨rfl, hb⟩
  have k3 := bnext k2 hb
  clear hb k2
  go_wp2_with fail
  go_ret
  exact ⟨rfl, k3⟩

set_option maxRecDepth 100000 in
set_option maxHeartbeats 8000000 in
theorem core (m : Int) (m1 : -9223372036854775808 ≤ m) (m2 : m ≤ 9223372036854775807) (n : Int) (n1 : -9223372036854775808 ≤ n) (n2 : n ≤ 9223372036854775807) (hp : rg (m * 1000000) = true) (hq : rg (n * 1000000) = true) (w : World) (T : Tabs w) :
    Calls Tryd.prog 9 #[.int .i64 m, .int .i64 n] w fun e w' => e = .returned (.bool true) ∧ Below w.heap.size w w' := by
  have k0 := b0 w
  obtain ⟨x, hx⟩ : ∃ x, m * 1000000 = x := ⟨_, rfl⟩
  obtain ⟨y, hy⟩ : ∃ y, n * 1000000 = y := ⟨_, rfl⟩
  have hxy : x + y = (m + n) * 1000000 := by omega
  have ht := ti_whole hp
  have ho := mul_one_dec hp
  have hk1 := kx_yes hp
  have hk2 := kx_yes hq
  have hmw := fun h => mul_whole (m := m) (n := n) h
  have hdw := fun h h' => div_whole (m := m) (n := n) h hp hq h'
  rw [hx] at hp hk1 ht ho hmw hdw
  rw [hy] at hq hk2 hmw hdw
  have hpr := (rg_iff x).1 hp
  have hqr := (rg_iff y).1 hq
  obtain ⟨px1, px2⟩ := hpr
  obtain ⟨qy1, qy2⟩ := hqr
  have mb1 : -1152921504607 ≤ m := by omega
  have mb2 : m ≤ 1152921504607 := by omega
  have nb1 : -1152921504607 ≤ n := by omega
  have nb2 : n ≤ 1152921504607 := by omega
  have hadK : adK x y = rg ((m + n) * 1000000) := by rw [adK_in hp hq, hxy]
  have hadX : adX x y = kx ((m + n) * 1000000) := by rw [adX_in hp hq, hxy]
  have TI := Lib.hid ht
  have MO := Lib.hid ho
  have MW := Lib.hid hmw
  have DW := Lib.hid hdw
  have HX := Lib.hid hx
  have HY := Lib.hid hy
  clear hxy ht ho hmw hdw
  obtain ⟨r, hr⟩ : ∃ r, rg ((m + n) * 1000000) = r := ⟨_, rfl⟩
  obtain ⟨s, hs⟩ : ∃ s, kx ((m + n) * 1000000) = s := ⟨_, rfl⟩
  rw [hr] at hadK
  rw [hs] at hadX
  obtain ⟨u, hu⟩ : ∃ u, muK x y = u := ⟨_, rfl⟩
  obtain ⟨v, hv⟩ : ∃ v, muX x y = v := ⟨_, rfl⟩
  cases u
  · clear MW DW
    cases r
    · go_enter Tryd.func9, Tryd.ntmps9
      go_wp2_with fail
      refine (example_any _ T).mono ?_
      rintro e w1 ⟨rfl, hb⟩
      have k1 := bnext k0 hb
      clear hb k0
      go_wp2_with fail
      refine (fromInt_any m _ m1 m2).mono ?_
      rw [HX.out, hk1, hp]
      rintro e w2 ⟨rfl, hb⟩
      have k2 := bnext k1 hb
      clear hb k1
      go_wp2_with fail
      refine (fromInt_any n _ n1 n2).mono ?_
      rw [HY.out, hk2, hq]
      rintro e w3 ⟨rfl, hb⟩
      have k3 := bnext k2 hb
      clear hb k2
      go_wp2_with fail
      refine (add_dec x y _).mono ?_
      rw [hadX, hadK]
      rintro e w4 ⟨rfl, hb⟩
      have k4 := bnext k3 hb
      clear hb k3
      go_wp2_with fail
      refine (fromInt_any (m + n) _ (by omega) (by omega)).mono ?_
      rw [hs, hr]
      rintro e w5 ⟨rfl, hb⟩
      have k5 := bnext k4 hb
      clear hb k4
      go_wp2_with fail
      refine (toInt_any x _ (by omega) (by omega)).mono ?_
      rw [TI.out]
      rintro e w6 ⟨rfl, hb⟩
      have k6 := bnext k5 hb
      clear hb k5
      go_wp2_with fail
      refine (mul_dec x 1000000 _).mono ?_
      rw [MO.out.1, MO.out.2]
      rintro e w7 ⟨rfl, hb⟩
      have k7 := bnext k6 hb
      clear hb k6
      go_wp2_with fail
      refine (is_same x true _).mono ?_
      rintro e w' ⟨rfl, rfl⟩
      go_wp2_with fail
      refine (mul_dec x y _).mono ?_
      rw [hu, hv]
      rintro e w8 ⟨rfl, hb⟩
      have k8 := bnext k7 hb
      clear hb k7
      go_wp2_with fail
      go_ret
      exact ⟨rfl, k8⟩
    · go_enter Tryd.func9, Tryd.ntmps9
      go_wp2_with fail
      refine (example_any _ T).mono ?_
      rintro e w1 ⟨rfl, hb⟩
      have k1 := bnext k0 hb
      clear hb k0
      go_wp2_with fail
      refine (fromInt_any m _ m1 m2).mono ?_
      rw [HX.out, hk1, hp]
      rintro e w2 ⟨rfl, hb⟩
      have k2 := bnext k1 hb
      clear hb k1
      go_wp2_with fail
      refine (fromInt_any n _ n1 n2).mono ?_
      rw [HY.out, hk2, hq]
      rintro e w3 ⟨rfl, hb⟩
      have k3 := bnext k2 hb
      clear hb k2
      go_wp2_with fail
      refine (add_dec x y _).mono ?_
      rw [hadX, hadK]
      rintro e w4 ⟨rfl, hb⟩
      have k4 := bnext k3 hb
      clear hb k3
      go_wp2_with fail
      refine (fromInt_any (m + n) _ (by omega) (by omega)).mono ?_
      rw [hs, hr]
      rintro e w5 ⟨rfl, hb⟩
      have k5 := bnext k4 hb
      clear hb k4
      go_wp2_with fail
      refine (toInt_any x _ (by omega) (by omega)).mono ?_
      rw [TI.out]
      rintro e w6 ⟨rfl, hb⟩
      have k6 := bnext k5 hb
      clear hb k5
      go_wp2_with fail
      refine (mul_dec x 1000000 _).mono ?_
      rw [MO.out.1, MO.out.2]
      rintro e w7 ⟨rfl, hb⟩
      have k7 := bnext k6 hb
      clear hb k6
      go_wp2_with fail
      refine (is_same x true _).mono ?_
      rintro e w' ⟨rfl, rfl⟩
      go_wp2_with fail
      refine (mul_dec x y _).mono ?_
      rw [hu, hv]
      rintro e w8 ⟨rfl, hb⟩
      have k8 := bnext k7 hb
      clear hb k7
      go_wp2_with fail
      go_ret
      exact ⟨rfl, k8⟩
  · obtain ⟨gv, gw⟩ := MW.out hu
    rw [hv] at gv
    obtain ⟨z, hz⟩ : ∃ z, m * n = z := ⟨_, rfl⟩
    rw [hz] at gv gw
    have hzr := (rg_iff _).1 gw
    have z1 : -1152921504607 ≤ z := by omega
    have z2 : z ≤ 1152921504607 := by omega
    have GK : Hid (kx (z * 1000000) = v) := by unfold Hid; rw [kx_yes gw, gv]
    have GR := Lib.hid gw
    clear MW hzr
    by_cases gn : n = 0
    · have gn' : (n == 0) = true := by simpa using gn
      clear DW gv gw gn
      cases r
      · go_enter Tryd.func9, Tryd.ntmps9
        go_wp2_with fail
        refine (example_any _ T).mono ?_
        rintro e w1 ⟨rfl, hb⟩
        have k1 := bnext k0 hb
        clear hb k0
        go_wp2_with fail
        refine (fromInt_any m _ m1 m2).mono ?_
        rw [HX.out, hk1, hp]
        rintro e w2 ⟨rfl, hb⟩
        have k2 := bnext k1 hb
        clear hb k1
        go_wp2_with fail
        refine (fromInt_any n _ n1 n2).mono ?_
        rw [HY.out, hk2, hq]
        rintro e w3 ⟨rfl, hb⟩
        have k3 := bnext k2 hb
        clear hb k2
        go_wp2_with fail
        refine (add_dec x y _).mono ?_
        rw [hadX, hadK]
        rintro e w4 ⟨rfl, hb⟩
        have k4 := bnext k3 hb
        clear hb k3
        go_wp2_with fail
        refine (fromInt_any (m + n) _ (by omega) (by omega)).mono ?_
        rw [hs, hr]
        rintro e w5 ⟨rfl, hb⟩
        have k5 := bnext k4 hb
        clear hb k4
        go_wp2_with fail
        refine (toInt_any x _ (by omega) (by omega)).mono ?_
        rw [TI.out]
        rintro e w6 ⟨rfl, hb⟩
        have k6 := bnext k5 hb
        clear hb k5
        go_wp2_with fail
        refine (mul_dec x 1000000 _).mono ?_
        rw [MO.out.1, MO.out.2]
        rintro e w7 ⟨rfl, hb⟩
        have k7 := bnext k6 hb
        clear hb k6
        go_wp2_with fail
        refine (is_same x true _).mono ?_
        rintro e w' ⟨rfl, rfl⟩
        go_wp2_with fail
        refine (mul_dec x y _).mono ?_
        rw [hu, hv]
        rintro e w8 ⟨rfl, hb⟩
        have k8 := bnext k7 hb
        clear hb k7
        go_wp2_with fail
        refine (fromInt_any z _ (by omega) (by omega)).mono ?_
        rw [GK.out, GR.out]
        rintro e w9 ⟨rfl, hb⟩
        have k9 := bnext k8 hb
        clear hb k8
        go_wp2_with fail
        refine (div_dec v y _).mono ?_
        rintro e w10 ⟨rfl, hb⟩
        have k10 := bnext k9 hb
        clear hb k9
        go_wp2_with fail
        go_ret
        exact ⟨rfl, k10⟩
      · go_enter Tryd.func9, Tryd.ntmps9
        go_wp2_with fail
        refine (example_any _ T).mono ?_
        rintro e w1 ⟨rfl, hb⟩
        have k1 := bnext k0 hb
        clear hb k0
        go_wp2_with fail
        refine (fromInt_any m _ m1 m2).mono ?_
        rw [HX.out, hk1, hp]
        rintro e w2 ⟨rfl, hb⟩
        have k2 := bnext k1 hb
        clear hb k1
        go_wp2_with fail
        refine (fromInt_any n _ n1 n2).mono ?_
        rw [HY.out, hk2, hq]
        rintro e w3 ⟨rfl, hb⟩
        have k3 := bnext k2 hb
        clear hb k2
        go_wp2_with fail
        refine (add_dec x y _).mono ?_
        rw [hadX, hadK]
        rintro e w4 ⟨rfl, hb⟩
        have k4 := bnext k3 hb
        clear hb k3
        go_wp2_with fail
        refine (fromInt_any (m + n) _ (by omega) (by omega)).mono ?_
        rw [hs, hr]
        rintro e w5 ⟨rfl, hb⟩
        have k5 := bnext k4 hb
        clear hb k4
        go_wp2_with fail
        refine (toInt_any x _ (by omega) (by omega)).mono ?_
        rw [TI.out]
        rintro e w6 ⟨rfl, hb⟩
        have k6 := bnext k5 hb
        clear hb k5
        go_wp2_with fail
        refine (mul_dec x 1000000 _).mono ?_
        rw [MO.out.1, MO.out.2]
        rintro e w7 ⟨rfl, hb⟩
        have k7 := bnext k6 hb
        clear hb k6
        go_wp2_with fail
        refine (is_same x true _).mono ?_
        rintro e w' ⟨rfl, rfl⟩
        go_wp2_with fail
        refine (mul_dec x y _).mono ?_
        rw [hu, hv]
        rintro e w8 ⟨rfl, hb⟩
        have k8 := bnext k7 hb
        clear hb k7
        go_wp2_with fail
        refine (fromInt_any z _ (by omega) (by omega)).mono ?_
        rw [GK.out, GR.out]
        rintro e w9 ⟨rfl, hb⟩
        have k9 := bnext k8 hb
        clear hb k8
        go_wp2_with fail
        refine (div_dec v y _).mono ?_
        rintro e w10 ⟨rfl, hb⟩
        have k10 := bnext k9 hb
        clear hb k9
        go_wp2_with fail
        go_ret
        exact ⟨rfl, k10⟩
    · have gn' : (n == 0) = false := by rw [beq_eq_false_iff_ne]; exact gn
      have gd := DW.out gn (by rw [hz]; exact gw)
      rw [hz, ← gv] at gd
      have GD := Lib.hid gd
      clear DW gd gv gw gn
      cases r
      · go_enter Tryd.func9, Tryd.ntmps9
        go_wp2_with fail
        refine (example_any _ T).mono ?_
        rintro e w1 ⟨rfl, hb⟩
        have k1 := bnext k0 hb
        clear hb k0
        go_wp2_with fail
        refine (fromInt_any m _ m1 m2).mono ?_
        rw [HX.out, hk1, hp]
        rintro e w2 ⟨rfl, hb⟩
        have k2 := bnext k1 hb
        clear hb k1
        go_wp2_with fail
        refine (fromInt_any n _ n1 n2).mono ?_
        rw [HY.out, hk2, hq]
        rintro e w3 ⟨rfl, hb⟩
        have k3 := bnext k2 hb
        clear hb k2
        go_wp2_with fail
        refine (add_dec x y _).mono ?_
        rw [hadX, hadK]
        rintro e w4 ⟨rfl, hb⟩
        have k4 := bnext k3 hb
        clear hb k3
        go_wp2_with fail
        refine (fromInt_any (m + n) _ (by omega) (by omega)).mono ?_
        rw [hs, hr]
        rintro e w5 ⟨rfl, hb⟩
        have k5 := bnext k4 hb
        clear hb k4
        go_wp2_with fail
        refine (toInt_any x _ (by omega) (by omega)).mono ?_
        rw [TI.out]
        rintro e w6 ⟨rfl, hb⟩
        have k6 := bnext k5 hb
        clear hb k5
        go_wp2_with fail
        refine (mul_dec x 1000000 _).mono ?_
        rw [MO.out.1, MO.out.2]
        rintro e w7 ⟨rfl, hb⟩
        have k7 := bnext k6 hb
        clear hb k6
        go_wp2_with fail
        refine (is_same x true _).mono ?_
        rintro e w' ⟨rfl, rfl⟩
        go_wp2_with fail
        refine (mul_dec x y _).mono ?_
        rw [hu, hv]
        rintro e w8 ⟨rfl, hb⟩
        have k8 := bnext k7 hb
        clear hb k7
        go_wp2_with fail
        refine (fromInt_any z _ (by omega) (by omega)).mono ?_
        rw [GK.out, GR.out]
        rintro e w9 ⟨rfl, hb⟩
        have k9 := bnext k8 hb
        clear hb k8
        go_wp2_with fail
        refine (div_dec v y _).mono ?_
        rw [GD.out.1, GD.out.2]
        rintro e w10 ⟨rfl, hb⟩
        have k10 := bnext k9 hb
        clear hb k9
        go_wp2_with fail
        refine (is_same x true _).mono ?_
        rintro e w' ⟨rfl, rfl⟩
        go_wp2_with fail
        go_ret
        exact ⟨rfl, k10⟩
      · go_enter Tryd.func9, Tryd.ntmps9
        go_wp2_with fail
        refine (example_any _ T).mono ?_
        rintro e w1 ⟨rfl, hb⟩
        have k1 := bnext k0 hb
        clear hb k0
        go_wp2_with fail
        refine (fromInt_any m _ m1 m2).mono ?_
        rw [HX.out, hk1, hp]
        rintro e w2 ⟨rfl, hb⟩
        have k2 := bnext k1 hb
        clear hb k1
        go_wp2_with fail
        refine (fromInt_any n _ n1 n2).mono ?_
        rw [HY.out, hk2, hq]
        rintro e w3 ⟨rfl, hb⟩
        have k3 := bnext k2 hb
        clear hb k2
        go_wp2_with fail
        refine (add_dec x y _).mono ?_
        rw [hadX, hadK]
        rintro e w4 ⟨rfl, hb⟩
        have k4 := bnext k3 hb
        clear hb k3
        go_wp2_with fail
        refine (fromInt_any (m + n) _ (by omega) (by omega)).mono ?_
        rw [hs, hr]
        rintro e w5 ⟨rfl, hb⟩
        have k5 := bnext k4 hb
        clear hb k4
        go_wp2_with fail
        refine (toInt_any x _ (by omega) (by omega)).mono ?_
        rw [TI.out]
        rintro e w6 ⟨rfl, hb⟩
        have k6 := bnext k5 hb
        clear hb k5
        go_wp2_with fail
        refine (mul_dec x 1000000 _).mono ?_
        rw [MO.out.1, MO.out.2]
        rintro e w7 ⟨rfl, hb⟩
        have k7 := bnext k6 hb
        clear hb k6
        go_wp2_with fail
        refine (is_same x true _).mono ?_
        rintro e w' ⟨rfl, rfl⟩
        go_wp2_with fail
        refine (mul_dec x y _).mono ?_
        rw [hu, hv]
        rintro e w8 ⟨rfl, hb⟩
        have k8 := bnext k7 hb
        clear hb k7
        go_wp2_with fail
        refine (fromInt_any z _ (by omega) (by omega)).mono ?_
        rw [GK.out, GR.out]
        rintro e w9 ⟨rfl, hb⟩
        have k9 := bnext k8 hb
        clear hb k8
        go_wp2_with fail
        refine (div_dec v y _).mono ?_
        rw [GD.out.1, GD.out.2]
        rintro e w10 ⟨rfl, hb⟩
        have k10 := bnext k9 hb
        clear hb k9
        go_wp2_with fail
        refine (is_same x true _).mono ?_
        rintro e w' ⟨rfl, rfl⟩
        go_wp2_with fail
        go_ret
        exact ⟨rfl, k10⟩

theorem walk (m : Int) (m1 : -9223372036854775808 ≤ m) (m2 : m ≤ 9223372036854775807) (n : Int) (n1 : -9223372036854775808 ≤ n) (n2 : n ≤ 9223372036854775807) (w : World) (T : Tabs w) :
    Calls Tryd.prog 9 #[.int .i64 m, .int .i64 n] w fun e w' => e = .returned (.bool true) ∧ Below w.heap.size w w' := by
  cases hp : rg (m * 1000000)
  · exact out1 m m1 m2 n n1 n2 hp w T
  · cases hq : rg (n * 1000000)
    · exact out2 m m1 m2 n n1 n2 hp hq w T
    · exact core m m1 m2 n n1 n2 hp hq w T

set_option maxRecDepth 100000 in
theorem lifted (os : Os) (started : os.Started) (H : Type) (enc : TypeId × Value → H) :
    ReturnsInHanded {} Tryd.checked os 9 .any (fun w args => (Rows.decimalWholeSpec.pre enc Tryd.prog Tryd.f9 [] false w args ∧ laidMetH Tryd.prog laid4 w) ∧ sizedMet enc Tryd.prog Tryd.f9 (OpenSpec.ofChange Rows.decimalWholeSpec) false w args)
      (Rows.decimalWholeSpec.post enc Tryd.prog Tryd.f9 false true false false) := by
  refine returnsInHanded_of_change_and (C := Tryd.checked) (X := fun w _ => laidMetH Tryd.prog laid4 w) (fun _ _ _ hh h => h.of_heap hh) own started (by kernel_rfl) Tryd.func9
    (ChangeSpec.witness_shaped (enc := enc) (C := Tryd.checked) (os := os) (X := fun w _ => laidMetH Tryd.prog laid4 w) false (World.doorLaid Tryd.prog 29 os) #[.int .i64 0, .int .i64 0] 8 rfl (World.shaped_of_RefB (by kernel_rfl) (by kernel_rfl)) (by kernel_rfl) (by kernel_rfl) (by kernel_rfl) (door_met os _)) ?_
  intro Z base args ds gs before hval0 hW _ _ hL _
  have hval : ∀ (j : Nat) t v, Tryd.f9.params[j]? = some t → args[j]? = some v → Value.okWide Tryd.prog Z .any base t v := hval0
  have hW' := hW
  obtain ⟨p, q, hA0, hV, rfl, hfz, hnd⟩ := hW
  have hA : DataW.TrodAll enc Tryd.prog Z 0 (fun _ => true) true Tryd.f9.params.toList args.toList ds p := hA0
  rw [Tryd.params9] at hA hval
  obtain ⟨v0, vs0, d0, ds0, p0, q0, hargs, rfl, rfl, h0, r0⟩ := trodAll_cons hA
  obtain ⟨v1, vs1, d1, ds1, p1, q1, rfl, rfl, rfl, h1, r1⟩ := trodAll_cons r0
  obtain ⟨rfl, rfl, rfl⟩ := trodAll_nil r1
  obtain rfl : args = #[v0, v1] := by cases args; simp_all
  obtain ⟨rfl, rfl⟩ := trodVars_none hV
  obtain ⟨a0, rfl, rfl, rfl, w0⟩ := open_int Tryd.underlying3 (hval 0 3 v0 rfl rfl) h0
  have n0 := bounds_i64 w0
  obtain ⟨a1, rfl, rfl, rfl, w1⟩ := open_int Tryd.underlying3 (hval 1 3 v1 rfl rfl) h1
  have n1 := bounds_i64 w1
  clear hA0 hval0
  simp only [List.append_nil] at hW'
  refine (walk a0 n0.1 n0.2 a1 n1.1 n1.2 Z (tabs_of_laid hL)).mono fun e Z' ⟨he, hg⟩ => ?_
  subst he
  exact ⟨_, rfl, post_below (pa := []) (pv := []) hW' (fun _ _ _ => (trodAll_cons_mk (shut_bool Tryd.underlying4 _) trodAll_mk0)) (fun sp _ => (trodAll_cons_mk (shut_int Tryd.underlying3 w0) (trodAll_cons_mk (shut_int Tryd.underlying3 w1) trodAll_mk0))) (fun _ _ => rfl) hg.frame⟩

theorem over : Rows.DecimalWholeSaid :=
  OpenClaim.holds_of_wide 9 Tryd.f9 rfl rfl rfl rfl rfl rfl rfl ⟨rfl, rfl, rfl, rfl, rfl⟩ rfl rfl rfl rfl rfl (by kernel_rfl) Tryd.func9 (by kernel_rfl)
    (of_decide_eq_true (by kernel_rfl)) (by unfold Func.isWrapper; first | (rw [if_pos (by decide +kernel)]; kernel_rfl) | (rw [if_neg (by decide +kernel)]; exact ⟨rfl, rfl⟩))
    (fun os started H enc _ => lifted os started H enc)

/-- The statement. -/
theorem proved : Rows.DecimalWholeCardSaid :=
  Claim7.holds_tied_plain_at .later [] [.data, .data, .data, .data] true _ false
    over (fun _ h => by cases h) (by kernel_rfl) (fun _ h => by cases h) decimalWhole_row_tie rfl ⟨rfl, rfl⟩ (by kernel_rfl) rfl
    (fun f fn hf hfn => by
      obtain rfl : f = 9 := Option.some.inj ((show Tryd.prog.funcNamed "asof/asoflaw02.DecimalWhole" = some 9 by kernel_rfl).symm.trans hf) |>.symm
      obtain rfl : fn = Tryd.f9 := (Option.some.inj (Tryd.func9.symm.trans hfn)).symm
      exact ⟨by kernel_rfl, fun j t ht => by
        rw [Tryd.params9] at ht
        have hm : t ∈ [3, 3] := by simpa using Array.mem_of_getElem? ht
        have hall : ([3, 3].all fun u => !Tryd.prog.wantsStandIn u) = true := by kernel_rfl
        exact (show Tryd.prog.wantsStandIn t = false by simpa using List.all_eq_true.1 hall t hm)⟩)
    (by kernel_rfl)
#print axioms proved
end Go.Proofs.YtgfigcjbfigmiaaDoor.whole

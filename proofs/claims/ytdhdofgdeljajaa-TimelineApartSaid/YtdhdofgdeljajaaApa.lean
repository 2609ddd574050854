/-
  The walk of TimelineApart.
-/
import Derived.Test.YtdhdofgdeljajaaApf
import Derived.Test.YtdhdofgdeljajaaLift
import Derived.WalkSmall
import Derived.Deep.CutRange
import Derived.BigQuiet
namespace Go.Proofs.Ytdhdofgdeljajaa
open Go.RowKit

set_option maxRecDepth 100000 in
set_option maxHeartbeats 2000000 in
theorem walk_apart (a : Option Addr) (n0 cap : Nat) (l : List Int) (g h : Int) (w : World) (hS : Sn w a n0 cap l) : Calls Try.prog 8 #[.slice a n0 cap, .int .i64 g, .int .i64 h] w fun e w' => e = .returned (.bool true) ∧ Below w.heap.size w w' := by
  have FC := Lib.hid (fewI_any a n0 cap w hS.hcap hS.hmax)
  have hN := fewN_le n0
  have X1 := hS.few (fewN n0) hN.2
  generalize fewN n0 = n at *
  generalize l.take n = X at *
  have hXn := X1.hn
  have hcap := X1.hcap
  have hmax := X1.hmax
  have SC := Lib.hid (Sessions_any a n cap X g w X1 (by omega))
  have SW := Lib.hid (fun w1 h1 => Sessions_any a n cap X h w1 h1 (by omega))
  have C3 := Lib.hid example_any
  have hML := ses_len g 1099511627776 X
  have hWL := ses_len h 1099511627776 X
  have f1 := Lib.hid (fun (hh : ¬ (1 ≤ g ∧ g ≤ 1099511627776)) => ses_none hh 1099511627776 X)
  have f2 : Hid (1 ≤ g ∧ g ≤ 1099511627776 → ∀ t ∈ X, cntI (ses g 1099511627776 X) t (ses g 1099511627776 X).length = if decide (0 ≤ t) && decide (t ≤ 1099511627776) then 1 else 0) := fun hg t ht => cntI_all hg ht
  have f3 : Hid (∀ i, i + 1 < (ses g 1099511627776 X).length → g < (gt (ses g 1099511627776 X) (i + 1)).1 - (gt (ses g 1099511627776 X) i).2) := fun i hi => far_gt (ses_far g _ X) hi
  have f4 : Hid (∀ i, i < (ses g 1099511627776 X).length → Ok (gt (ses g 1099511627776 X) i)) := fun i hi => ses_ok g _ X (Int.le_refl _) _ (gt_mem hi)
  have f5 : Hid (1 ≤ g → g ≤ h → h ≤ 1099511627776 → (ses h 1099511627776 X).length ≤ (ses g 1099511627776 X).length ∧ ∀ i, i < (ses g 1099511627776 X).length → anyI (ses h 1099511627776 X) (gt (ses g 1099511627776 X) i) (ses h 1099511627776 X).length = true) := fun h1 h2 h3 => ⟨(ses_wide _ X h1 h2 h3).2, fun i hi => anyI_all h1 h2 h3 (gt_mem hi)⟩
  rw [hXn] at hML hWL
  generalize ses g 1099511627776 X = M at *
  generalize ses h 1099511627776 X = V at *
  replace X1 := Lib.hid X1
  replace hXn := Lib.hid hXn
  have hM60 : M.length ≤ 60 := by omega
  have hV60 : V.length ≤ 60 := by omega
  clear hS hML hWL
  go_enter Try.func8, Try.ntmps8
  go_wp2_with fail
  refine FC.out.mono ?_
  rintro e w1 ⟨rfl, rfl⟩
  go_wp2_with fail
  refine SC.out.mono ?_
  rintro e w1 ⟨v, rfl, O, d⟩
  obtain ⟨am, capm, rfl, L⟩ := O.sl
  replace X1 := Lib.hid (X1.out.keeps d)
  have b1 := Lib.hid d
  have hcapm := L.hcap
  have hmaxm := L.hmax
  obtain ⟨nm, hnm⟩ : ∃ nm, M.length = nm := ⟨_, rfl⟩
  rw [hnm] at L hM60 hcapm ⊢
  replace L := Lib.hid L
  replace hnm := Lib.hid hnm
  clear d O FC SC
  by_cases hg : 1 ≤ g ∧ g ≤ 1099511627776
  · have q1 : decide (g < 1) = false := decide_eq_false (by omega)
    have q2 : decide (1099511627776 < g) = false := decide_eq_false (by omega)
    have f2 := Lib.hid (f2.out hg)
    replace hg := Lib.hid hg
    clear f1
    go_wp2_with fail
    go_loopw [9] (fun i wr => ∃ k : Nat, i = .int .i64 (k : Int) ∧ Hid (k ≤ n) ∧ Hid (Below w1.heap.size w1 wr)) (fun i _ => n - (intOf i).toNat)
    case atStart => exact ⟨0, rfl, Nat.zero_le _, b0 w1⟩
    case round =>
      obtain ⟨k, rfl, hk, hb⟩ := hrel
      by_cases hlt : k < n
      · have p1 : decide ((k : Int) < (n : Int)) = true := decide_eq_true (by omega)
        obtain ⟨bk, off, rfl, hC⟩ := (X1.out.keeps hb.out).hat.resolve_left (by have := hXn.out; omega)
        have hct := Lib.hid (f2.out _ (gn_mem (show k < X.length by have := hXn.out; omega)))
        have e0 := Lib.hid (hC k (by have := hXn.out; omega))
        generalize gn X k = t at *
        clear hC
        go_wp2_with fail
        generalize wr = W at *
        go_loopw [10, 11] (fun c i wr => ∃ j : Nat, c = .int .i64 ((cntI M t j : Nat) : Int) ∧ i = .int .i64 (j : Int) ∧ Hid (j ≤ nm) ∧ Hid (Below W.heap.size W wr)) (fun _ i _ => nm - (intOf i).toNat)
        case atStart => exact ⟨0, by simp [cntI], rfl, Nat.zero_le _, b0 W⟩
        case round =>
          obtain ⟨j, rfl, rfl, hj, hbj⟩ := hrel
          have hcl : cntI M t j ≤ 60 := by have := cntI_le M t j; have := hnm.out; omega
          by_cases hjn : j < nm
          · have p2 : decide ((j : Int) < (nm : Int)) = true := decide_eq_true (by omega)
            obtain ⟨bm, offm, rfl, hD⟩ := (L.out.keeps (bnext hb.out hbj.out)).hat.resolve_left (by have := hnm.out; omega)
            obtain ⟨d0, d1⟩ := hD j (by have := hnm.out; omega)
            have hcs := Lib.hid (cntI_succ (M := M) (t := t) (i := j) (by have := hnm.out; omega))
            have e1 := keeps hbj.out e0.out
            generalize (gt M j).1 = u at *
            generalize (gt M j).2 = v at *
            generalize hc0 : cntI M t j = c at *
            have K := Lib.hid (all_grown (inside_any u v t) wr)
            generalize (decide (u ≤ t) && decide (t ≤ v)) = o at *
            replace d0 := cell_regrown d0
            replace d1 := cell_regrown d1
            replace e1 := cell_regrown e1
            clear hD
            go_wp2_with fail
            refine wp_region_quiet_below (by kernel_rfl) (by kernel_rfl) ?_
            repeat (first | go_big_quiet_skip | (go_big_quiet_want; go_big_quiet_op; go_big_quiet_on) | quiet_step ((first | (go_at_call 29; exact K.out _ _))))
            refine wpQuiet_nil ?_
            intro w5 hw5
            have hbw := below_of hw5
            have hbj2 := Lib.hid (bnext hbj.out hbw)
            clear hw5 hbw K d0 d1 e1
            cases o
            · have hcs2 : Hid (cntI M t (j + 1) = c) := by have := hcs.out; unfold Hid; simpa using this
              go_wp2_with fail
              go_roundw
              case rel => exact ⟨j + 1, by rw [hcs2.out], rfl, hjn, hbj2.out⟩
              case measure => simp only [intOf]; omega
            · have hcs2 : Hid (cntI M t (j + 1) = c + 1) := by have := hcs.out; unfold Hid; simpa using this
              go_wp2_with fail
              go_roundw
              case rel => exact ⟨j + 1, by rw [hcs2.out]; rfl, rfl, hjn, hbj2.out⟩
              case measure => simp only [intOf]; omega
          · have p2 : decide ((j : Int) < (nm : Int)) = false := decide_eq_false (by omega)
            obtain rfl : j = nm := by have := hj.out; omega
            have hct2 : cntI M t j = if decide (0 ≤ t) && decide (t ≤ 1099511627776) then 1 else 0 := by have := hct.out; rw [hnm.out] at this; exact this
            have e1 := keeps hbj.out e0.out
            replace hb := Lib.hid (bnext hb.out hbj.out)
            rw [hct2]
            clear hct hct2 hcl hbj
            by_cases t0 : 0 ≤ t
            · have p3 : decide (0 ≤ t) = true := decide_eq_true t0
              by_cases t1 : t ≤ 1099511627776
              · have p4 : decide (t ≤ 1099511627776) = true := decide_eq_true t1
                simp only [p3, p4, Bool.and_self, if_true]
                clear t0 t1
                go_wp2_with fail
                go_roundw
                case rel => exact ⟨k + 1, rfl, hlt, hb.out⟩
                case measure => simp only [intOf]; omega
              · have p4 : decide (t ≤ 1099511627776) = false := decide_eq_false t1
                simp only [p3, p4, Bool.and_false, Bool.false_eq_true, if_false]
                clear t0 t1
                go_wp2_with fail
                go_roundw
                case rel => exact ⟨k + 1, rfl, hlt, hb.out⟩
                case measure => simp only [intOf]; omega
            · have p3 : decide (0 ≤ t) = false := decide_eq_false t0
              simp only [p3, Bool.false_and, Bool.false_eq_true, if_false]
              clear t0
              go_wp2_with fail
              go_roundw
              case rel => exact ⟨k + 1, rfl, hlt, hb.out⟩
              case measure => simp only [intOf]; omega
      · have p1 : decide ((k : Int) < (n : Int)) = false := decide_eq_false (by omega)
        replace b1 := Lib.hid (bnext b1.out hb.out)
        replace X1 := Lib.hid (X1.out.keeps hb.out)
        replace L := Lib.hid (L.out.keeps hb.out)
        clear hb f2
        generalize wr = w2 at *
        go_wp2_with fail
        go_loopw [13] (fun i wr => ∃ k : Nat, i = .int .i64 ((k + 1 : Nat) : Int) ∧ Hid (k = 0 ∨ k + 1 ≤ nm) ∧ Hid (Below w2.heap.size w2 wr)) (fun i _ => nm - (intOf i).toNat)
        case atStart => exact ⟨0, rfl, .inl rfl, b0 w2⟩
        case round =>
          obtain ⟨j, rfl, hj, hb⟩ := hrel
          by_cases hjn : j + 1 < nm
          · have p2 : decide (((j + 1 : Nat) : Int) < (nm : Int)) = true := decide_eq_true (by omega)
            obtain ⟨bm, offm, rfl, hD⟩ := (L.out.keeps hb.out).hat.resolve_left (by have := hnm.out; omega)
            obtain ⟨d0, _⟩ := hD (j + 1) (by have := hnm.out; omega)
            obtain ⟨_, d1⟩ := hD j (by have := hnm.out; omega)
            have hfar := f3.out j (by have := hnm.out; omega)
            obtain ⟨o1, o2, o3⟩ := f4.out j (by have := hnm.out; omega)
            obtain ⟨o4, o5, o6⟩ := f4.out (j + 1) (by have := hnm.out; omega)
            generalize (gt M (j + 1)).1 = u at *
            generalize (gt M j).2 = v at *
            generalize (gt M (j + 1)).2 = u2 at *
            generalize (gt M j).1 = v2 at *
            have p3 : decide (u - v ≤ g) = false := decide_eq_false (by omega)
            clear hD
            go_wp2_with fail
            go_quiet (fail)
            have hb2 := Lib.hid (below_drewN hb.out nq)
            generalize wr.drewN nq = W2 at *
            clear d0 d1 hfar o1 o2 o3 o4 o5 o6 p3
            go_wp2_with fail
            go_roundw
            case rel => exact ⟨j + 1, rfl, .inr hjn, hb2.out⟩
            case measure => simp only [intOf]; omega
          · have p2 : decide (((j + 1 : Nat) : Int) < (nm : Int)) = false := decide_eq_false (by omega)
            replace b1 := Lib.hid (bnext b1.out hb.out)
            replace X1 := Lib.hid (X1.out.keeps hb.out)
            replace L := Lib.hid (L.out.keeps hb.out)
            clear hb f3
            generalize wr = w3 at *
            by_cases hh1 : h < g
            · have p3 : decide (h < g) = true := decide_eq_true hh1
              clear hh1 f5
              go_wp2_with fail
              refine (C3.out _).mono ?_
              rintro e w4 ⟨rfl, d⟩
              replace b1 := Lib.hid (bnext b1.out d)
              clear d
              go_wp2_with fail
              go_ret
              exact ⟨rfl, b1.out⟩
            · have p3 : decide (h < g) = false := decide_eq_false hh1
              by_cases hh2 : 1099511627776 < h
              · have p4 : decide (1099511627776 < h) = true := decide_eq_true hh2
                clear hh1 hh2 f5
                go_wp2_with fail
                refine (C3.out _).mono ?_
                rintro e w4 ⟨rfl, d⟩
                replace b1 := Lib.hid (bnext b1.out d)
                clear d
                go_wp2_with fail
                go_ret
                exact ⟨rfl, b1.out⟩
              · have p4 : decide (1099511627776 < h) = false := decide_eq_false hh2
                obtain ⟨f6, f7⟩ := f5.out hg.out.1 (by omega) (by omega)
                replace f6 := Lib.hid f6
                replace f7 := Lib.hid f7
                clear f5 hh1 hh2
                go_wp2_with fail
                refine (SW.out w3 X1.out).mono ?_
                rintro e w4 ⟨v, rfl, O, d⟩
                obtain ⟨av, capv, rfl, LV⟩ := O.sl
                have hcapv := LV.hcap
                have hmaxv := LV.hmax
                obtain ⟨nv, hnv⟩ : ∃ nv, V.length = nv := ⟨_, rfl⟩
                rw [hnv] at LV hV60 hcapv ⊢
                replace LV := Lib.hid LV
                replace hnv := Lib.hid hnv
                replace b1 := Lib.hid (bnext b1.out d)
                replace L := Lib.hid (L.out.keeps d)
                clear d O SW X1
                go_wp2_with fail
                go_loopw [15] (fun i wr => ∃ k : Nat, i = .int .i64 (k : Int) ∧ Hid (k ≤ nm) ∧ Hid (Below w4.heap.size w4 wr)) (fun i _ => nm - (intOf i).toNat)
                case atStart => exact ⟨0, rfl, Nat.zero_le _, b0 w4⟩
                case round =>
                  obtain ⟨k, rfl, hk, hb⟩ := hrel
                  by_cases hlt : k < nm
                  · have p5 : decide ((k : Int) < (nm : Int)) = true := decide_eq_true (by omega)
                    obtain ⟨bm, offm, rfl, hD⟩ := (L.out.keeps hb.out).hat.resolve_left (by have := hnm.out; omega)
                    obtain ⟨d0, d1⟩ := hD k (by have := hnm.out; omega)
                    have hany := Lib.hid (f7.out k (by have := hnm.out; omega))
                    generalize gt M k = mm at *
                    obtain ⟨m1, m2⟩ := mm
                    simp only at d0 d1
                    replace d0 := Lib.hid d0
                    replace d1 := Lib.hid d1
                    clear hD
                    go_wp2_with fail
                    generalize wr = W at *
                    go_loopw [16, 17] (fun c i wr => ∃ j : Nat, c = .bool (anyI V (m1, m2) j) ∧ i = .int .i64 (j : Int) ∧ Hid (j ≤ nv) ∧ Hid (Below W.heap.size W wr)) (fun _ i _ => nv - (intOf i).toNat)
                    case atStart => exact ⟨0, by simp [anyI], rfl, Nat.zero_le _, b0 W⟩
                    case round =>
                      obtain ⟨j, rfl, rfl, hj, hbj⟩ := hrel
                      by_cases hjn : j < nv
                      · have p6 : decide ((j : Int) < (nv : Int)) = true := decide_eq_true (by omega)
                        obtain ⟨bv, offv, rfl, hE⟩ := (LV.out.keeps (bnext hb.out hbj.out)).hat.resolve_left (by have := hnv.out; omega)
                        obtain ⟨c0, c1⟩ := hE j (by have := hnv.out; omega)
                        have has := Lib.hid (anyI_succ (V := V) (m := (m1, m2)) (k := j) (by have := hnv.out; omega))
                        have g0 := keeps hbj.out d0.out
                        have g1 := keeps hbj.out d1.out
                        simp only at has
                        generalize (gt V j).1 = u at *
                        generalize (gt V j).2 = v at *
                        generalize anyI V (m1, m2) j = f0 at *
                        have K1 := Lib.hid (all_grown (inside_any u v m1) wr)
                        have K2 := Lib.hid (all_grown (inside_any u v m2) wr)
                        generalize (decide (u ≤ m1) && decide (m1 ≤ v)) = o1 at *
                        generalize (decide (u ≤ m2) && decide (m2 ≤ v)) = o2 at *
                        replace c0 := cell_regrown c0
                        replace c1 := cell_regrown c1
                        replace g0 := cell_regrown g0
                        replace g1 := cell_regrown g1
                        clear hE
                        cases f0
                        · cases o1
                          · have has2 : Hid (anyI V (m1, m2) (j + 1) = false) := by have := has.out; unfold Hid; simpa using this
                            clear has K2
                            go_wp2_with fail
                            refine wp_region_quiet_below (by kernel_rfl) (by kernel_rfl) ?_
                            repeat (first | go_big_quiet_skip | (go_big_quiet_want; go_big_quiet_op; go_big_quiet_on) | quiet_step ((first | (go_at_call 29; exact K1.out _ _))))
                            refine wpQuiet_nil ?_
                            intro w5 hw5
                            have hbj2 := Lib.hid (bnext hbj.out (below_of hw5))
                            clear hw5 K1 c0 c1 g0 g1
                            go_wp2_with fail
                            go_roundw
                            case rel => exact ⟨j + 1, by rw [has2.out], rfl, hjn, hbj2.out⟩
                            case measure => simp only [intOf]; omega
                          · have has2 : Hid (anyI V (m1, m2) (j + 1) = o2) := by have := has.out; unfold Hid; simpa using this
                            clear has
                            go_wp2_with fail
                            refine wp_region_quiet_below (by kernel_rfl) (by kernel_rfl) ?_
                            iterate 12 (first | go_big_quiet_skip | (go_big_quiet_want; go_big_quiet_op; go_big_quiet_on) | quiet_step ((first | (go_at_call 29; exact K1.out _ _))))
                            repeat (first | go_big_quiet_skip | (go_big_quiet_want; go_big_quiet_op; go_big_quiet_on) | quiet_step ((first | (go_at_call 29; exact K2.out _ _))))
                            refine wpQuiet_nil ?_
                            intro w5 hw5
                            have hbj2 := Lib.hid (bnext hbj.out (below_of hw5))
                            clear hw5 K1 K2 c0 c1 g0 g1
                            go_wp2_with fail
                            go_roundw
                            case rel => exact ⟨j + 1, by rw [has2.out], rfl, hjn, hbj2.out⟩
                            case measure => simp only [intOf]; omega
                        · have has2 : Hid (anyI V (m1, m2) (j + 1) = true) := by have := has.out; unfold Hid; simpa using this
                          clear has K1 K2
                          go_wp2_with fail
                          refine wp_region_quiet_below (by kernel_rfl) (by kernel_rfl) ?_
                          repeat (first | go_big_quiet_skip | (go_big_quiet_want; go_big_quiet_op; go_big_quiet_on))
                          refine wpQuiet_nil ?_
                          intro w5 hw5
                          have hbj2 := Lib.hid (bnext hbj.out (below_of hw5))
                          clear hw5 c0 c1 g0 g1
                          go_wp2_with fail
                          go_roundw
                          case rel => exact ⟨j + 1, by rw [has2.out], rfl, hjn, hbj2.out⟩
                          case measure => simp only [intOf]; omega
                      · have p6 : decide ((j : Int) < (nv : Int)) = false := decide_eq_false (by omega)
                        obtain rfl : j = nv := by have := hj.out; omega
                        have hany2 : anyI V (m1, m2) j = true := by have := hany.out; rw [hnv.out] at this; exact this
                        rw [hany2]
                        replace hb := Lib.hid (bnext hb.out hbj.out)
                        clear hany hany2 hbj d0 d1
                        go_wp2_with fail
                        go_roundw
                        case rel => exact ⟨k + 1, rfl, hlt, hb.out⟩
                        case measure => simp only [intOf]; omega
                  · have p5 : decide ((k : Int) < (nm : Int)) = false := decide_eq_false (by omega)
                    have p8 : nv ≤ nm := by have := f6.out; have := hnm.out; have := hnv.out; omega
                    have p7 : decide ((nv : Int) ≤ (nm : Int)) = true := decide_eq_true (by omega)
                    replace b1 := Lib.hid (bnext b1.out hb.out)
                    clear hb f7
                    go_wp2_with fail
                    refine (C3.out _).mono ?_
                    rintro e w5 ⟨rfl, d⟩
                    replace b1 := Lib.hid (bnext b1.out d)
                    clear d
                    go_wp2_with fail
                    go_ret
                    exact ⟨rfl, b1.out⟩
  · have hM := f1.out hg
    subst hM
    obtain rfl : 0 = nm := hnm.out
    have q1 : (decide (g < 1) || decide (1099511627776 < g)) = true := by
      by_cases h1 : g < 1
      · simp [h1]
      · simp [h1]; omega
    clear f1 f2 f3 f4 f5 hg
    by_cases h1 : g < 1
    · have q1 : decide (g < 1) = true := decide_eq_true h1
      go_wp2_with fail
      refine (C3.out _).mono ?_
      rintro e w4 ⟨rfl, d⟩
      replace b1 := Lib.hid (bnext b1.out d)
      clear d
      go_wp2_with fail
      go_ret
      exact ⟨rfl, b1.out⟩
    · have q1 : decide (g < 1) = false := decide_eq_false h1
      have q2 : decide (1099511627776 < g) = true := by
        have := q1
        simp_all
      go_wp2_with fail
      refine (C3.out _).mono ?_
      rintro e w4 ⟨rfl, d⟩
      replace b1 := Lib.hid (bnext b1.out d)
      clear d
      go_wp2_with fail
      go_ret
      exact ⟨rfl, b1.out⟩
end Go.Proofs.Ytdhdofgdeljajaa

/-
  The statement UnitsPowers, walked.
-/
import Derived.Test.YtcndlcogainnkaaGreatDoorPwf
namespace Go.Proofs.YtcndlcogainnkaaGreatDoor
open Go.RowKit dec

set_option maxRecDepth 100000 in
set_option maxHeartbeats 4000000 in
theorem walk_powers (a0 : Option Addr) (n0 c0 : Nat) (l : List Fa) (N : Nat) (hN : N < 256) (w : World) (hA : Sl w a0 n0 c0 l) (T : Tabs w) :
    Calls Tryz.prog 8 #[.slice a0 n0 c0, .int .u8 (N : Nat)] w fun e w' => e = .returned (.bool true) ∧ Below w.heap.size w w' := by
  have E0 := Lib.hid (example_any w T)
  have SA := Lib.hid hA
  have KA := Lib.hid (fun W h => check_any a0 n0 c0 l W h)
  clear hA T
  by_cases ha : ck l = 0
  · have ok := Lib.hid ((ck_iff l).1 ha)
    rw [ha] at KA
    clear ha
    obtain ⟨K, hK⟩ : ∃ K : Nat, (N : Int) % 20 = (K : Int) := ⟨N % 20, by omega⟩
    have K20 := Lib.hid (show K < 20 by omega)
    have RF := Lib.hid (rep_facts ok.out K20.out)
    have LA := Lib.hid SA.out.hn
    clear hN
    cases hfr : fr K l
    · by_cases h0 : K = 0
      · skip
        have HF := Lib.hid hfr
        have NC := Lib.hid (fun a n c W h => normal_any a n c (rep K l) W h RF.out.1 (by have := RF.out.2; omega))
        rw [show nE (rep K l) = 0 by rw [h0]; rfl, show nL (rep K l) = [] by rw [h0]; rfl] at NC
        have q9 : ((K : Int) == 0) = true := by rw [h0]; rfl
        clear hfr h0
        go_enter Tryz.func8, Tryz.ntmps8
        go_wp2_with fail
        refine E0.out.mono ?_
        rintro e z1 ⟨rfl, bX⟩
        have A1 := Lib.hid (SA.out.keeps bX)
        have Q1 := Lib.hid bX
        clear bX
        go_wp2_with fail
        refine (KA.out _ A1.out).mono ?_
        rintro e z2 ⟨rfl, bX⟩
        have A2 := Lib.hid (A1.out.keeps bX)
        have Q2 := Lib.hid (bnext Q1.out bX)
        clear bX A1 Q1
        go_wp2_with fail
        go_loopw [6, 7] (fun vu vi wr => ∃ j : Nat, vi = .int .i64 (j : Nat) ∧ Hid (j ≤ K) ∧ Hid (Own wr w.heap.size vu (rep j l)) ∧ Hid (Sl wr a0 n0 c0 l) ∧ Hid (Below w.heap.size w wr)) (fun _ vi _ => K - (intOf vi).toNat)
        case atStart => exact ⟨0, rfl, Lib.hid (Nat.zero_le _), Lib.hid (Own.nil _ _), A2, Q2⟩
        case round =>
          obtain ⟨j, rfl, hj, hO, hA, hb⟩ := hrel
          by_cases hc : j < K
          · have q2 : decide ((j : Int) < (K : Int)) = true := decide_eq_true (by omega)
            have q3 : (j : Int) < (K : Int) := by omega
            have f4 := Lib.hid (next_at (j := j) (by have := K20.out; omega))
            have hl := Lib.hid (show (rep j l).length + n0 < 5864062014805 by
              have := ok.out.le
              have := LA.out
              have := K20.out
              rw [rep_len]
              have : j * l.length ≤ 19 * 4 := Nat.mul_le_mul (by omega) (by omega)
              omega)
            have hcc := Lib.hid hc
            clear hc
            go_wp2_with (at_builtin; refine is_cat (.tmp 26) (.tmp 27) rfl ?_; refine wpList_cat _ rfl (.tmp 26) (.tmp 27) rfl w.heap.size _ _ rfl hO.out a0 n0 c0 l rfl hA.out hl.out hb.out.size ?_; intro v2 w6 O6 b6)
            have B6 := Lib.hid (hb.out.trans b6)
            have A6 := Lib.hid (SA.out.keeps B6.out)
            have O7 := Lib.hid (show Own w6 w.heap.size v2 (rep (j + 1) l) from O6)
            clear b6 O6
            go_wp2_with fail
            refine ⟨⟨j + 1, by first | exact congrArg (Value.int .i64) f4.out | rfl, Lib.hid hcc.out, O7, A6, B6⟩, by first | exact less_at hcc.out f4.out | exact less_dl hcc.out⟩
          · have hjK : j = K := by have := hj.out; omega
            subst hjK
            have q2 : decide ((j : Int) < (j : Int)) = false := decide_eq_false (by omega)
            obtain ⟨a3, k3, c3, rfl, S3⟩ : ∃ a3 k3 c3, u6 = .slice a3 k3 c3 ∧ Sl wr a3 k3 c3 (rep j l) := by
              obtain ⟨a, c, e, S⟩ := hO.out.sl
              exact ⟨a, _, c, e, S⟩
            have S3h := Lib.hid S3
            clear S3 hO hc
            go_wp2_with fail
            refine (NC.out _ _ _ _ S3h.out).mono ?_
            rintro e z5 ⟨v5, rfl, o5, bX⟩
            obtain ⟨a5, c5, rfl, s5⟩ := o5.ou (n := 0) rfl
            have P5 := Lib.hid s5
            clear o5 s5
            have A5 := Lib.hid (hA.out.keeps bX)
            have Q5 := Lib.hid (bnext hb.out bX)
            clear bX hA hb S3h
            go_wp2_with fail
            go_loopw [10, 11] (fun vf vi wr => ∃ i : Nat, vi = .int .i64 (i : Nat) ∧ vf = .bool (fr j (l.take i)) ∧ Hid (i ≤ n0) ∧ z5 = wr) (fun _ vi _ => n0 - (intOf vi).toNat)
            case atStart => exact ⟨0, rfl, rfl, Lib.hid (Nat.zero_le _), rfl⟩
            case round =>
              obtain ⟨i, rfl, rfl, hi, rfl⟩ := hrel
              by_cases hd : i < n0
              · have hln := Lib.hid (show i < l.length by have := LA.out; omega)
                obtain ⟨bk, off, rfl, hC⟩ := A5.out.hat.resolve_left (by have := hln.out; omega)
                obtain ⟨d0, d1⟩ := hC i hln.out
                have q5 : decide ((i : Int) < (n0 : Int)) = true := decide_eq_true (by omega)
                have q6 : i < n0 := hd
                have f4 := Lib.hid (next_at (j := i) (by have := A5.out.hcap; have := A5.out.hmax; omega))
                have hfn := Lib.hid (fr_next (k := j) hln.out)
                have hsm := Lib.hid (small_mul (k := j) (far_le (ok.out.good _ (gt_mem hln.out)).2.2) K20.out)
                generalize gt l i = x at *
                generalize fr j (l.take i) = fb at *
                clear hC
                obtain ⟨y, hy⟩ : ∃ y, y = x.2 * (j : Int) := ⟨_, rfl⟩
                rw [← hy] at hfn hsm
                have Y := Lib.hid hy
                clear hy
                cases fb
                · by_cases h8 : 8 < y
                  · have q7 : decide (8 < y) = true := decide_eq_true h8
                    have hr := Lib.hid (show fr j (l.take (i + 1)) = true by rw [hfn.out]; unfold far; simp [h8])
                    have f5 : wrap64 (x.2 * (j : Int)) = y := by rw [← Y.out]; exact hsm.out
                    clear h8
                    go_wp2_with fail
                    refine ⟨⟨i + 1, by first | exact congrArg (Value.int .i64) f4.out | rfl, by rw [hr.out], Lib.hid hd, trivial⟩, by first | exact less_at hd f4.out | exact less_dl hd⟩
                  · have q7 : decide (8 < y) = false := decide_eq_false h8
                    by_cases h9 : y < -8
                    · have q8 : decide (y < -8) = true := decide_eq_true h9
                      have hr := Lib.hid (show fr j (l.take (i + 1)) = true by rw [hfn.out]; unfold far; simp [h9])
                      have f5 : wrap64 (x.2 * (j : Int)) = y := by rw [← Y.out]; exact hsm.out
                      clear h8 h9
                      go_wp2_with fail
                      refine ⟨⟨i + 1, by first | exact congrArg (Value.int .i64) f4.out | rfl, by rw [hr.out], Lib.hid hd, trivial⟩, by first | exact less_at hd f4.out | exact less_dl hd⟩
                    · have q8 : decide (y < -8) = false := decide_eq_false h9
                      have hr := Lib.hid (show fr j (l.take (i + 1)) = false by rw [hfn.out]; unfold far; rw [decide_eq_false (by omega)]; rfl)
                      have f5 : wrap64 (x.2 * (j : Int)) = y := by rw [← Y.out]; exact hsm.out
                      clear h8 h9
                      go_wp2_with fail
                      refine ⟨⟨i + 1, by first | exact congrArg (Value.int .i64) f4.out | rfl, by rw [hr.out], Lib.hid hd, trivial⟩, by first | exact less_at hd f4.out | exact less_dl hd⟩
                · have hr := Lib.hid (show fr j (l.take (i + 1)) = true by rw [hfn.out]; rfl)
                  have f5 : wrap64 (x.2 * (j : Int)) = y := by rw [← Y.out]; exact hsm.out
                  go_wp2_with fail
                  refine ⟨⟨i + 1, by first | exact congrArg (Value.int .i64) f4.out | rfl, by rw [hr.out], Lib.hid hd, trivial⟩, by first | exact less_at hd f4.out | exact less_dl hd⟩
              · have q5 : decide ((i : Int) < (n0 : Int)) = false := decide_eq_false (by omega)
                have hfl := HF.out
                rw [← show l.take i = l from List.take_of_length_le (by have := LA.out; omega)] at hfl
                rw [hfl]
                clear hfl
                go_wp2_with fail
                go_ret
                exact ⟨rfl, Q5.out⟩

      · skip
        have HF := Lib.hid hfr
        have NC := Lib.hid (fun a n c W h => normal_any a n c (rep K l) W h RF.out.1 (by have := RF.out.2; omega))
        rw [(pw_ok ok.out hfr (by omega)).1, (pw_ok ok.out hfr (by omega)).2] at NC
        have q9 : ((K : Int) == 0) = false := beq_eq_false_iff_ne.2 (by omega)
        clear hfr h0
        go_enter Tryz.func8, Tryz.ntmps8
        go_wp2_with fail
        refine E0.out.mono ?_
        rintro e z1 ⟨rfl, bX⟩
        have A1 := Lib.hid (SA.out.keeps bX)
        have Q1 := Lib.hid bX
        clear bX
        go_wp2_with fail
        refine (KA.out _ A1.out).mono ?_
        rintro e z2 ⟨rfl, bX⟩
        have A2 := Lib.hid (A1.out.keeps bX)
        have Q2 := Lib.hid (bnext Q1.out bX)
        clear bX A1 Q1
        go_wp2_with fail
        go_loopw [6, 7] (fun vu vi wr => ∃ j : Nat, vi = .int .i64 (j : Nat) ∧ Hid (j ≤ K) ∧ Hid (Own wr w.heap.size vu (rep j l)) ∧ Hid (Sl wr a0 n0 c0 l) ∧ Hid (Below w.heap.size w wr)) (fun _ vi _ => K - (intOf vi).toNat)
        case atStart => exact ⟨0, rfl, Lib.hid (Nat.zero_le _), Lib.hid (Own.nil _ _), A2, Q2⟩
        case round =>
          obtain ⟨j, rfl, hj, hO, hA, hb⟩ := hrel
          by_cases hc : j < K
          · have q2 : decide ((j : Int) < (K : Int)) = true := decide_eq_true (by omega)
            have q3 : (j : Int) < (K : Int) := by omega
            have f4 := Lib.hid (next_at (j := j) (by have := K20.out; omega))
            have hl := Lib.hid (show (rep j l).length + n0 < 5864062014805 by
              have := ok.out.le
              have := LA.out
              have := K20.out
              rw [rep_len]
              have : j * l.length ≤ 19 * 4 := Nat.mul_le_mul (by omega) (by omega)
              omega)
            have hcc := Lib.hid hc
            clear hc
            go_wp2_with (at_builtin; refine is_cat (.tmp 26) (.tmp 27) rfl ?_; refine wpList_cat _ rfl (.tmp 26) (.tmp 27) rfl w.heap.size _ _ rfl hO.out a0 n0 c0 l rfl hA.out hl.out hb.out.size ?_; intro v2 w6 O6 b6)
            have B6 := Lib.hid (hb.out.trans b6)
            have A6 := Lib.hid (SA.out.keeps B6.out)
            have O7 := Lib.hid (show Own w6 w.heap.size v2 (rep (j + 1) l) from O6)
            clear b6 O6
            go_wp2_with fail
            refine ⟨⟨j + 1, by first | exact congrArg (Value.int .i64) f4.out | rfl, Lib.hid hcc.out, O7, A6, B6⟩, by first | exact less_at hcc.out f4.out | exact less_dl hcc.out⟩
          · have hjK : j = K := by have := hj.out; omega
            subst hjK
            have q2 : decide ((j : Int) < (j : Int)) = false := decide_eq_false (by omega)
            obtain ⟨a3, k3, c3, rfl, S3⟩ : ∃ a3 k3 c3, u6 = .slice a3 k3 c3 ∧ Sl wr a3 k3 c3 (rep j l) := by
              obtain ⟨a, c, e, S⟩ := hO.out.sl
              exact ⟨a, _, c, e, S⟩
            have S3h := Lib.hid S3
            clear S3 hO hc
            go_wp2_with fail
            refine (NC.out _ _ _ _ S3h.out).mono ?_
            rintro e z5 ⟨v5, rfl, o5, bX⟩
            obtain ⟨a5, c5, rfl, s5⟩ := o5.ou (n := n0) (by rw [sc_len]; exact LA.out)
            have P5 := Lib.hid s5
            clear o5 s5
            have A5 := Lib.hid (hA.out.keeps bX)
            have Q5 := Lib.hid (bnext hb.out bX)
            clear bX hA hb S3h
            go_wp2_with fail
            go_loopw [10, 11] (fun vf vi wr => ∃ i : Nat, vi = .int .i64 (i : Nat) ∧ vf = .bool (fr j (l.take i)) ∧ Hid (i ≤ n0) ∧ z5 = wr) (fun _ vi _ => n0 - (intOf vi).toNat)
            case atStart => exact ⟨0, rfl, rfl, Lib.hid (Nat.zero_le _), rfl⟩
            case round =>
              obtain ⟨i, rfl, rfl, hi, rfl⟩ := hrel
              by_cases hd : i < n0
              · have hln := Lib.hid (show i < l.length by have := LA.out; omega)
                obtain ⟨bk, off, rfl, hC⟩ := A5.out.hat.resolve_left (by have := hln.out; omega)
                obtain ⟨d0, d1⟩ := hC i hln.out
                have q5 : decide ((i : Int) < (n0 : Int)) = true := decide_eq_true (by omega)
                have q6 : i < n0 := hd
                have f4 := Lib.hid (next_at (j := i) (by have := A5.out.hcap; have := A5.out.hmax; omega))
                have hfn := Lib.hid (fr_next (k := j) hln.out)
                have hsm := Lib.hid (small_mul (k := j) (far_le (ok.out.good _ (gt_mem hln.out)).2.2) K20.out)
                generalize gt l i = x at *
                generalize fr j (l.take i) = fb at *
                clear hC
                obtain ⟨y, hy⟩ : ∃ y, y = x.2 * (j : Int) := ⟨_, rfl⟩
                rw [← hy] at hfn hsm
                have Y := Lib.hid hy
                clear hy
                cases fb
                · by_cases h8 : 8 < y
                  · have q7 : decide (8 < y) = true := decide_eq_true h8
                    have hr := Lib.hid (show fr j (l.take (i + 1)) = true by rw [hfn.out]; unfold far; simp [h8])
                    have f5 : wrap64 (x.2 * (j : Int)) = y := by rw [← Y.out]; exact hsm.out
                    clear h8
                    go_wp2_with fail
                    refine ⟨⟨i + 1, by first | exact congrArg (Value.int .i64) f4.out | rfl, by rw [hr.out], Lib.hid hd, trivial⟩, by first | exact less_at hd f4.out | exact less_dl hd⟩
                  · have q7 : decide (8 < y) = false := decide_eq_false h8
                    by_cases h9 : y < -8
                    · have q8 : decide (y < -8) = true := decide_eq_true h9
                      have hr := Lib.hid (show fr j (l.take (i + 1)) = true by rw [hfn.out]; unfold far; simp [h9])
                      have f5 : wrap64 (x.2 * (j : Int)) = y := by rw [← Y.out]; exact hsm.out
                      clear h8 h9
                      go_wp2_with fail
                      refine ⟨⟨i + 1, by first | exact congrArg (Value.int .i64) f4.out | rfl, by rw [hr.out], Lib.hid hd, trivial⟩, by first | exact less_at hd f4.out | exact less_dl hd⟩
                    · have q8 : decide (y < -8) = false := decide_eq_false h9
                      have hr := Lib.hid (show fr j (l.take (i + 1)) = false by rw [hfn.out]; unfold far; rw [decide_eq_false (by omega)]; rfl)
                      have f5 : wrap64 (x.2 * (j : Int)) = y := by rw [← Y.out]; exact hsm.out
                      clear h8 h9
                      go_wp2_with fail
                      refine ⟨⟨i + 1, by first | exact congrArg (Value.int .i64) f4.out | rfl, by rw [hr.out], Lib.hid hd, trivial⟩, by first | exact less_at hd f4.out | exact less_dl hd⟩
                · have hr := Lib.hid (show fr j (l.take (i + 1)) = true by rw [hfn.out]; rfl)
                  have f5 : wrap64 (x.2 * (j : Int)) = y := by rw [← Y.out]; exact hsm.out
                  go_wp2_with fail
                  refine ⟨⟨i + 1, by first | exact congrArg (Value.int .i64) f4.out | rfl, by rw [hr.out], Lib.hid hd, trivial⟩, by first | exact less_at hd f4.out | exact less_dl hd⟩
              · have q5 : decide ((i : Int) < (n0 : Int)) = false := decide_eq_false (by omega)
                have hfl := HF.out
                rw [← show l.take i = l from List.take_of_length_le (by have := LA.out; omega)] at hfl
                rw [hfl]
                clear hfl
                go_wp2_with fail
                try rw [hK]
                go_loopw [13] (fun vi wr => ∃ h : Nat, vi = .int .i64 (h : Nat) ∧ Hid (h ≤ n0) ∧ Hid (Below z5.heap.size z5 wr)) (fun vi _ => n0 - (intOf vi).toNat)
                case atStart => exact ⟨0, rfl, Lib.hid (Nat.zero_le _), Lib.hid (b0 _)⟩
                case round =>
                  obtain ⟨h, rfl, hh, hbb⟩ := hrel
                  by_cases hg : h < n0
                  · have hln := Lib.hid (show h < l.length by have := LA.out; omega)
                    obtain ⟨bk, off, rfl, hC⟩ := (A5.out.keeps hbb.out).hat.resolve_left (by have := hln.out; omega)
                    obtain ⟨d0, d1⟩ := hC h hln.out
                    obtain ⟨bp, offp, rfl, hD⟩ := (P5.out.keeps hbb.out).hat.resolve_left (by have := hln.out; rw [sc_len]; omega)
                    obtain ⟨e0, e1⟩ := hD h (by rw [sc_len]; exact hln.out)
                    rw [gt_sc hln.out] at e0 e1
                    have q7 : decide ((h : Int) < (n0 : Int)) = true := decide_eq_true (by omega)
                    have q8 : h < n0 := hg
                    have f4 := Lib.hid (next_at (j := h) (by have := A5.out.hcap; have := A5.out.hmax; omega))
                    have hsm := Lib.hid (small_mul (k := j) (far_le (ok.out.good _ (gt_mem hln.out)).2.2) K20.out)
                    generalize gt l h = x at *
                    clear hC hD
                    obtain ⟨y, hy⟩ : ∃ y, y = x.2 * (j : Int) := ⟨_, rfl⟩
                    rw [← hy] at hsm e1
                    have Y := Lib.hid hy
                    clear hy
                    have f5 : wrap64 (x.2 * (j : Int)) = y := by rw [← Y.out]; exact hsm.out
                    go_wp2_with fail
                    go_region
                    go_wp2_with fail
                    go_roundw
                    case rel => exact ⟨h + 1, congrArg (Value.int .i64) f4.out, Lib.hid hg, Lib.hid hbb.out.drew⟩
                    case measure => exact less_at hg f4.out
                  · have q7 : decide ((h : Int) < (n0 : Int)) = false := decide_eq_false (by omega)
                    go_wp2_with fail
                    go_ret
                    exact ⟨rfl, bnext Q5.out hbb.out⟩

    · skip
      have HF := Lib.hid hfr
      have NC := Lib.hid (fun a n c W h => normal_any a n c (rep K l) W h RF.out.1 (by have := RF.out.2; omega))
      rw [pw_far ok.out hfr] at NC
      clear hfr
      go_enter Tryz.func8, Tryz.ntmps8
      go_wp2_with fail
      refine E0.out.mono ?_
      rintro e z1 ⟨rfl, bX⟩
      have A1 := Lib.hid (SA.out.keeps bX)
      have Q1 := Lib.hid bX
      clear bX
      go_wp2_with fail
      refine (KA.out _ A1.out).mono ?_
      rintro e z2 ⟨rfl, bX⟩
      have A2 := Lib.hid (A1.out.keeps bX)
      have Q2 := Lib.hid (bnext Q1.out bX)
      clear bX A1 Q1
      go_wp2_with fail
      go_loopw [6, 7] (fun vu vi wr => ∃ j : Nat, vi = .int .i64 (j : Nat) ∧ Hid (j ≤ K) ∧ Hid (Own wr w.heap.size vu (rep j l)) ∧ Hid (Sl wr a0 n0 c0 l) ∧ Hid (Below w.heap.size w wr)) (fun _ vi _ => K - (intOf vi).toNat)
      case atStart => exact ⟨0, rfl, Lib.hid (Nat.zero_le _), Lib.hid (Own.nil _ _), A2, Q2⟩
      case round =>
        obtain ⟨j, rfl, hj, hO, hA, hb⟩ := hrel
        by_cases hc : j < K
        · have q2 : decide ((j : Int) < (K : Int)) = true := decide_eq_true (by omega)
          have q3 : (j : Int) < (K : Int) := by omega
          have f4 := Lib.hid (next_at (j := j) (by have := K20.out; omega))
          have hl := Lib.hid (show (rep j l).length + n0 < 5864062014805 by
            have := ok.out.le
            have := LA.out
            have := K20.out
            rw [rep_len]
            have : j * l.length ≤ 19 * 4 := Nat.mul_le_mul (by omega) (by omega)
            omega)
          have hcc := Lib.hid hc
          clear hc
          go_wp2_with (at_builtin; refine is_cat (.tmp 26) (.tmp 27) rfl ?_; refine wpList_cat _ rfl (.tmp 26) (.tmp 27) rfl w.heap.size _ _ rfl hO.out a0 n0 c0 l rfl hA.out hl.out hb.out.size ?_; intro v2 w6 O6 b6)
          have B6 := Lib.hid (hb.out.trans b6)
          have A6 := Lib.hid (SA.out.keeps B6.out)
          have O7 := Lib.hid (show Own w6 w.heap.size v2 (rep (j + 1) l) from O6)
          clear b6 O6
          go_wp2_with fail
          refine ⟨⟨j + 1, by first | exact congrArg (Value.int .i64) f4.out | rfl, Lib.hid hcc.out, O7, A6, B6⟩, by first | exact less_at hcc.out f4.out | exact less_dl hcc.out⟩
        · have hjK : j = K := by have := hj.out; omega
          subst hjK
          have q2 : decide ((j : Int) < (j : Int)) = false := decide_eq_false (by omega)
          obtain ⟨a3, k3, c3, rfl, S3⟩ : ∃ a3 k3 c3, u6 = .slice a3 k3 c3 ∧ Sl wr a3 k3 c3 (rep j l) := by
            obtain ⟨a, c, e, S⟩ := hO.out.sl
            exact ⟨a, _, c, e, S⟩
          have S3h := Lib.hid S3
          clear S3 hO hc
          go_wp2_with fail
          refine (NC.out _ _ _ _ S3h.out).mono ?_
          rintro e z5 ⟨v5, rfl, o5, bX⟩
          clear o5
          have A5 := Lib.hid (hA.out.keeps bX)
          have Q5 := Lib.hid (bnext hb.out bX)
          clear bX hA hb S3h
          go_wp2_with fail
          go_loopw [10, 11] (fun vf vi wr => ∃ i : Nat, vi = .int .i64 (i : Nat) ∧ vf = .bool (fr j (l.take i)) ∧ Hid (i ≤ n0) ∧ z5 = wr) (fun _ vi _ => n0 - (intOf vi).toNat)
          case atStart => exact ⟨0, rfl, rfl, Lib.hid (Nat.zero_le _), rfl⟩
          case round =>
            obtain ⟨i, rfl, rfl, hi, rfl⟩ := hrel
            by_cases hd : i < n0
            · have hln := Lib.hid (show i < l.length by have := LA.out; omega)
              obtain ⟨bk, off, rfl, hC⟩ := A5.out.hat.resolve_left (by have := hln.out; omega)
              obtain ⟨d0, d1⟩ := hC i hln.out
              have q5 : decide ((i : Int) < (n0 : Int)) = true := decide_eq_true (by omega)
              have q6 : i < n0 := hd
              have f4 := Lib.hid (next_at (j := i) (by have := A5.out.hcap; have := A5.out.hmax; omega))
              have hfn := Lib.hid (fr_next (k := j) hln.out)
              have hsm := Lib.hid (small_mul (k := j) (far_le (ok.out.good _ (gt_mem hln.out)).2.2) K20.out)
              generalize gt l i = x at *
              generalize fr j (l.take i) = fb at *
              clear hC
              obtain ⟨y, hy⟩ : ∃ y, y = x.2 * (j : Int) := ⟨_, rfl⟩
              rw [← hy] at hfn hsm
              have Y := Lib.hid hy
              clear hy
              cases fb
              · by_cases h8 : 8 < y
                · have q7 : decide (8 < y) = true := decide_eq_true h8
                  have hr := Lib.hid (show fr j (l.take (i + 1)) = true by rw [hfn.out]; unfold far; simp [h8])
                  have f5 : wrap64 (x.2 * (j : Int)) = y := by rw [← Y.out]; exact hsm.out
                  clear h8
                  go_wp2_with fail
                  refine ⟨⟨i + 1, by first | exact congrArg (Value.int .i64) f4.out | rfl, by rw [hr.out], Lib.hid hd, trivial⟩, by first | exact less_at hd f4.out | exact less_dl hd⟩
                · have q7 : decide (8 < y) = false := decide_eq_false h8
                  by_cases h9 : y < -8
                  · have q8 : decide (y < -8) = true := decide_eq_true h9
                    have hr := Lib.hid (show fr j (l.take (i + 1)) = true by rw [hfn.out]; unfold far; simp [h9])
                    have f5 : wrap64 (x.2 * (j : Int)) = y := by rw [← Y.out]; exact hsm.out
                    clear h8 h9
                    go_wp2_with fail
                    refine ⟨⟨i + 1, by first | exact congrArg (Value.int .i64) f4.out | rfl, by rw [hr.out], Lib.hid hd, trivial⟩, by first | exact less_at hd f4.out | exact less_dl hd⟩
                  · have q8 : decide (y < -8) = false := decide_eq_false h9
                    have hr := Lib.hid (show fr j (l.take (i + 1)) = false by rw [hfn.out]; unfold far; rw [decide_eq_false (by omega)]; rfl)
                    have f5 : wrap64 (x.2 * (j : Int)) = y := by rw [← Y.out]; exact hsm.out
                    clear h8 h9
                    go_wp2_with fail
                    refine ⟨⟨i + 1, by first | exact congrArg (Value.int .i64) f4.out | rfl, by rw [hr.out], Lib.hid hd, trivial⟩, by first | exact less_at hd f4.out | exact less_dl hd⟩
              · have hr := Lib.hid (show fr j (l.take (i + 1)) = true by rw [hfn.out]; rfl)
                have f5 : wrap64 (x.2 * (j : Int)) = y := by rw [← Y.out]; exact hsm.out
                go_wp2_with fail
                refine ⟨⟨i + 1, by first | exact congrArg (Value.int .i64) f4.out | rfl, by rw [hr.out], Lib.hid hd, trivial⟩, by first | exact less_at hd f4.out | exact less_dl hd⟩
            · have q5 : decide ((i : Int) < (n0 : Int)) = false := decide_eq_false (by omega)
              have hfl := HF.out
              rw [← show l.take i = l from List.take_of_length_le (by have := LA.out; omega)] at hfl
              rw [hfl]
              clear hfl
              go_wp2_with fail
              go_ret
              exact ⟨rfl, Q5.out⟩

  · have qc : (ck l != 0) = true := by rw [bne_iff_ne]; exact ha
    clear ha
    generalize ck l = k at *
    go_enter Tryz.func8, Tryz.ntmps8
    go_wp2_with fail
    refine E0.out.mono ?_
    rintro e z1 ⟨rfl, bX⟩
    have A1 := Lib.hid (SA.out.keeps bX)
    have Q1 := Lib.hid bX
    clear bX SA
    go_wp2_with fail
    refine (KA.out _ A1.out).mono ?_
    rintro e z2 ⟨rfl, bX⟩
    have Q2 := Lib.hid (bnext Q1.out bX)
    clear bX A1 Q1
    go_wp2_with fail
    go_ret
    exact ⟨rfl, Q2.out⟩
end Go.Proofs.YtcndlcogainnkaaGreatDoor

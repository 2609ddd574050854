/-
  LexerNames: the walk.
-/
import Derived.Test.YtkfciilclfhabaaDoorNaf
import Derived.Test.YtkfciilclfhabaaDoorCvr
namespace Go.Proofs.YtkfciilclfhabaaDoor
open Go.RowKit dec

theorem struct_no (a b : Int) (s t : ByteArray) (c d : Int) (h : ¬ (a = b ∧ s = t ∧ c = d)) : (a == b && (s.toList == t.toList && c == d)) = false := by
  rw [eqb, eqb]
  by_cases h1 : a = b
  · by_cases h2 : s = t
    · have h3 : ¬ c = d := fun h3 => h ⟨h1, h2, h3⟩
      rw [decide_eq_false h3]; simp
    · have : (s.toList == t.toList) = false := by rw [beq_eq_false_iff_ne]; exact fun e => h2 (toList_inj e)
      rw [this]; simp
  · rw [decide_eq_false h1]; simp
set_option maxRecDepth 100000 in
set_option maxHeartbeats 16000000 in
theorem walk_names (s : ByteArray) (a0 : Option Addr) (n0 cap : Nat) (r : ByteArray) (w : World) (hS : Bs w a0 n0 cap r) (T : Tabs w) :
    Calls Tryd.prog 7 #[.string s, .slice a0 n0 cap] w fun e w' => e = .returned (.bool true) ∧ Below w.heap.size w w' := by
  have hn0 := hS.hn
  subst hn0
  have EX := Lib.hid (example_any w T)
  have T0 := Lib.hid T
  have S0 := Lib.hid hS
  clear T hS
  by_cases hbig : 200 < s.size
  · have q1 : decide (200 < (s.size : Int)) = true := decide_eq_true (by omega)
    clear hbig
    go_enter Tryd.func7, Tryd.ntmps7
    go_wp2_with fail
    refine EX.out.mono ?_
    rintro e w1 ⟨rfl, b1⟩
    have B1 := Lib.hid b1
    clear b1
    go_wp2_with fail
    go_ret
    exact ⟨rfl, B1.out⟩
  have q1 : decide (200 < (s.size : Int)) = false := decide_eq_false (by omega)
  have Z0 := Lib.hid (show s.size ≤ 200 by omega)
  clear hbig
  by_cases hbig : 2000 < r.size
  · have q2 : decide (2000 < (r.size : Int)) = true := decide_eq_true (by omega)
    clear hbig
    go_enter Tryd.func7, Tryd.ntmps7
    go_wp2_with fail
    refine EX.out.mono ?_
    rintro e w1 ⟨rfl, b1⟩
    have B1 := Lib.hid b1
    clear b1
    go_wp2_with fail
    go_ret
    exact ⟨rfl, B1.out⟩
  have q2 : decide (2000 < (r.size : Int)) = false := decide_eq_false (by omega)
  have Z1 := Lib.hid (show r.size ≤ 2000 by omega)
  have NC := Lib.hid (fun W T => name_any s (by have := Z0.out; omega) W T)
  have KC := Lib.hid (fun W => keyword_any s W)
  have TK := Lib.hid (fun W => tok_any 1 s 0 W)
  have EO := name_or s
  have EA := name_and s
  generalize name s = n at *
  generalize kw s = c at *
  have YES := Lib.hid (fun h => word_yes (s := s) (by have := Z0.out; omega) h)
  have NO := Lib.hid (fun h => word_no (s := s) (by have := Z0.out; omega) h)
  generalize wd1 s = q at *
  obtain ⟨L, hL⟩ : ∃ L, L = tokL s := ⟨_, rfl⟩
  obtain ⟨M, hM⟩ : ∃ M, M = tokB s := ⟨_, rfl⟩
  rw [← hL, ← hM] at YES NO
  have TC := Lib.hid (fun a n cp W hS T => tokens_any a n cp s W hS T)
  unfold TR at TC
  rw [show tokE s = 0 by unfold tokE; rw [if_neg (by have := Z0.out; omega)], ← hL, ← hM] at TC
  clear hL hM
  have TS := Lib.hid (fun W hS T => tokens_any a0 r.size cap r W hS T)
  unfold TR at TS
  rw [show tokE r = 0 by unfold tokE; rw [if_neg (by have := Z1.out; omega)]] at TS
  have TN := Lib.hid (fun x (h : x ∈ tokL r) => And.intro (tok_small (s := r) (by have := Z1.out; omega) h) (tok_name (s := r) (by have := Z1.out; omega) h))
  have KL := (tokL_last r (by have := Z1.out; omega)).2.1
  generalize tokL r = R at *
  generalize tokB r = RB at *
  replace KL := Lib.hid KL
  cases q
  · have hn : n = false := (Bool.or_eq_false_iff.1 EO).1
    have hc : c = false := by rw [hn] at EO; exact EO
    subst hn
    subst hc
    clear EO EA YES
    go_enter Tryd.func7, Tryd.ntmps7
    go_wp2_with fail
    refine EX.out.mono ?_
    rintro e w1 ⟨rfl, b1⟩
    have B1 := Lib.hid b1
    clear b1
    go_wp2_with fail
    refine (NC.out _ (T0.out.stays B1.out)).mono ?_
    rintro e w2 ⟨rfl, b2⟩
    have B2 := Lib.hid (bnext B1.out b2)
    clear b2
    obtain ⟨w3, cv, hcv, hB, b3⟩ := bytes_of w2 s (by have := Z0.out; omega)
    have B3' := Lib.hid (bnext B2.out b3)
    have BS := Lib.hid hB
    clear b3 hB
    go_wp2_with fail
    refine (TC.out _ _ _ _ BS.out (T0.out.stays B3'.out)).mono ?_
    rintro e w4 ⟨v, u, rfl, o4, p4, b4⟩
    obtain ⟨al, cl, rfl, sl⟩ := o4.sl
    obtain ⟨ab, cb, rfl, sb⟩ := p4.sl
    have B4 := Lib.hid (bnext B3'.out b4)
    clear o4 p4 b4
    obtain ⟨m, hm⟩ : ∃ m, m = M.length := ⟨_, rfl⟩
    obtain ⟨k, hk⟩ : ∃ k, k = L.length := ⟨_, rfl⟩
    rw [← hm, ← hk]
    by_cases hm0 : m = 0
    · by_cases hk2 : k = 2
      · have NN := NO.out trivial (by omega) (by omega)
        obtain ⟨bk, off, rfl, hD⟩ := sl.hat.resolve_left (by omega)
        obtain ⟨c0, c1, c2⟩ := hD 0 (by omega)
        clear hD
        generalize tk.gt L 0 = x at *
        obtain ⟨xk, xt, xa⟩ := x
        simp only at NN c0 c1 c2
        rw [Nat.zero_mul, Nat.add_zero] at c0 c1 c2
        have TA := Lib.hid (all_grown TK.out w4)
        subst hm0
        subst hk2
        clear sl sb NO hm hk
        have g0 := cell_regrown c0
        have g1 := cell_regrown c1
        have g2 := cell_regrown c2
        by_cases h1 : xk = 1
        rotate_left
        · have e1 : (xk == 1) = false := by rw [beq_eq_false_iff_ne]; exact h1
          clear NN
          go_wp2_with fail
          refine wp_region_quiet_below (by kernel_rfl) (by kernel_rfl) ?_
          repeat (first | go_big_quiet_skip | (go_big_quiet_want; go_big_quiet_op; first | go_big_quiet_on | go_big_quiet_call ((go_at_call 18; exact TA.out _ _))))
          refine wpQuiet_nil ?_
          intro w9 hw9
          have B3 := bnext B4.out (below_of hw9)
          clear hw9
          go_wp2_with fail
          refine (NC.out _ (T0.out.stays B3)).mono ?_
          rintro e w2b ⟨rfl, b5⟩
          replace B3 := bnext B3 b5
          clear b5
          go_wp2_with fail
          refine (KC.out _).mono ?_
          rintro e w2c ⟨rfl, hw2c⟩
          obtain rfl : w2b = w2c := hw2c.symm
          have V3 := Lib.hid B3
          clear B3
          go_wp2_with fail
          refine (TS.out _ (S0.out.keeps V3.out) (T0.out.stays V3.out)).mono ?_
          rintro e w7 ⟨v7, u7, rfl, o7, p7, b7⟩
          obtain ⟨ar, cr, rfl, sr⟩ := o7.sl
          obtain ⟨ax, cx, rfl, sx⟩ := p7.sl
          have B7 := Lib.hid (bnext V3.out b7)
          have SR := Lib.hid sr
          obtain ⟨z, hz⟩ : ∃ z, z = R.length := ⟨_, rfl⟩
          rw [← hz] at SR KL ⊢
          generalize RB.length = zz
          replace hz := Lib.hid hz
          clear o7 p7 sr sx b7 TS
          go_wp2_with fail
          go_loopw [12] (fun vi wr => ∃ j : Nat, vi = .int .i64 (j : Nat) ∧ Hid (j ≤ z) ∧ Hid (Below w7.heap.size w7 wr)) (fun vi _ => z - (intOf vi).toNat)
          case atStart => exact ⟨0, rfl, Lib.hid (Nat.zero_le _), Lib.hid (b0 w7)⟩
          case round =>
            obtain ⟨j, rfl, hj, hb⟩ := hrel
            by_cases hlt : j < z
            · have r1 : decide ((j : Int) < (z : Int)) = true := decide_eq_true (by omega)
              have r2 : j < z := hlt
              have hjl : j < R.length := by have := hz.out; omega
              obtain ⟨bk, off, rfl, hD⟩ := (SR.out.keeps hb.out).hat.resolve_left (by omega)
              obtain ⟨c0, c1, c2⟩ := hD j hjl
              have f4 := Lib.hid (next_at (j := j) (by have := KL.out; have := Z1.out; omega))
              obtain ⟨x1, x2⟩ := TN.out _ (tk.gt_mem hjl)
              clear hD hjl
              generalize tk.gt R j = x at *
              obtain ⟨xk, xt, xa⟩ := x
              simp only at c0 c1 c2 x1 x2
              by_cases hk : xk = 1
              · have r3 : (xk == 1) = true := by rw [hk]; rfl
                have NX := Lib.hid (name_any xt (by have := Z1.out; omega) wr (T0.out.stays (bnext B7.out hb.out)))
                have KX := Lib.hid (fun W => keyword_any xt W)
                have hor := x2 hk
                generalize name xt = a at *
                generalize kw xt = b at *
                clear x1 x2 hk
                cases a
                · have hb1 : b = true := hor
                  subst hb1
                  go_wp2_with fail
                  refine NX.out.mono ?_
                  rintro e w8 ⟨rfl, b8⟩
                  have d1 := dec.keeps b8 c1
                  have B8 := Lib.hid (bnext hb.out b8)
                  clear b8
                  go_wp2_with fail
                  refine (KX.out _).mono ?_
                  rintro e w9 ⟨rfl, rfl⟩
                  go_wp2_with fail
                  exact ⟨⟨j + 1, congrArg (Value.int .i64) f4.out, Lib.hid r2, B8⟩, less_at r2 f4.out⟩
                · go_wp2_with fail
                  refine NX.out.mono ?_
                  rintro e w8 ⟨rfl, b8⟩
                  have d1 := dec.keeps b8 c1
                  have B8 := Lib.hid (bnext hb.out b8)
                  clear b8
                  go_wp2_with fail
                  exact ⟨⟨j + 1, congrArg (Value.int .i64) f4.out, Lib.hid r2, B8⟩, less_at r2 f4.out⟩
              · have r3 : (xk == 1) = false := by rw [beq_eq_false_iff_ne]; exact hk
                clear x1 x2 hk
                go_wp2_with fail
                exact ⟨⟨j + 1, congrArg (Value.int .i64) f4.out, Lib.hid r2, hb⟩, less_at r2 f4.out⟩
            · have r1 : decide ((j : Int) < (z : Int)) = false := decide_eq_false (by omega)
              have r2 : decide (j < z) = false := decide_eq_false hlt
              have B9 := Lib.hid (bnext B7.out hb.out)
              go_wp2_with fail
              go_ret
              exact ⟨rfl, B9.out⟩
        have e1 : (xk == 1) = true := beq_iff_eq.2 h1
        by_cases h2 : xt = s
        rotate_left
        · have e2 : (xt.toList == s.toList) = false := by rw [beq_eq_false_iff_ne]; exact fun e => h2 (toList_inj e)
          clear NN
          go_wp2_with fail
          refine wp_region_quiet_below (by kernel_rfl) (by kernel_rfl) ?_
          repeat (first | go_big_quiet_skip | (go_big_quiet_want; go_big_quiet_op; first | go_big_quiet_on | go_big_quiet_call ((go_at_call 18; exact TA.out _ _))))
          refine wpQuiet_nil ?_
          intro w9 hw9
          have B3 := bnext B4.out (below_of hw9)
          clear hw9
          go_wp2_with fail
          refine (NC.out _ (T0.out.stays B3)).mono ?_
          rintro e w2b ⟨rfl, b5⟩
          replace B3 := bnext B3 b5
          clear b5
          go_wp2_with fail
          refine (KC.out _).mono ?_
          rintro e w2c ⟨rfl, hw2c⟩
          obtain rfl : w2b = w2c := hw2c.symm
          have V3 := Lib.hid B3
          clear B3
          go_wp2_with fail
          refine (TS.out _ (S0.out.keeps V3.out) (T0.out.stays V3.out)).mono ?_
          rintro e w7 ⟨v7, u7, rfl, o7, p7, b7⟩
          obtain ⟨ar, cr, rfl, sr⟩ := o7.sl
          obtain ⟨ax, cx, rfl, sx⟩ := p7.sl
          have B7 := Lib.hid (bnext V3.out b7)
          have SR := Lib.hid sr
          obtain ⟨z, hz⟩ : ∃ z, z = R.length := ⟨_, rfl⟩
          rw [← hz] at SR KL ⊢
          generalize RB.length = zz
          replace hz := Lib.hid hz
          clear o7 p7 sr sx b7 TS
          go_wp2_with fail
          go_loopw [12] (fun vi wr => ∃ j : Nat, vi = .int .i64 (j : Nat) ∧ Hid (j ≤ z) ∧ Hid (Below w7.heap.size w7 wr)) (fun vi _ => z - (intOf vi).toNat)
          case atStart => exact ⟨0, rfl, Lib.hid (Nat.zero_le _), Lib.hid (b0 w7)⟩
          case round =>
            obtain ⟨j, rfl, hj, hb⟩ := hrel
            by_cases hlt : j < z
            · have r1 : decide ((j : Int) < (z : Int)) = true := decide_eq_true (by omega)
              have r2 : j < z := hlt
              have hjl : j < R.length := by have := hz.out; omega
              obtain ⟨bk, off, rfl, hD⟩ := (SR.out.keeps hb.out).hat.resolve_left (by omega)
              obtain ⟨c0, c1, c2⟩ := hD j hjl
              have f4 := Lib.hid (next_at (j := j) (by have := KL.out; have := Z1.out; omega))
              obtain ⟨x1, x2⟩ := TN.out _ (tk.gt_mem hjl)
              clear hD hjl
              generalize tk.gt R j = x at *
              obtain ⟨xk, xt, xa⟩ := x
              simp only at c0 c1 c2 x1 x2
              by_cases hk : xk = 1
              · have r3 : (xk == 1) = true := by rw [hk]; rfl
                have NX := Lib.hid (name_any xt (by have := Z1.out; omega) wr (T0.out.stays (bnext B7.out hb.out)))
                have KX := Lib.hid (fun W => keyword_any xt W)
                have hor := x2 hk
                generalize name xt = a at *
                generalize kw xt = b at *
                clear x1 x2 hk
                cases a
                · have hb1 : b = true := hor
                  subst hb1
                  go_wp2_with fail
                  refine NX.out.mono ?_
                  rintro e w8 ⟨rfl, b8⟩
                  have d1 := dec.keeps b8 c1
                  have B8 := Lib.hid (bnext hb.out b8)
                  clear b8
                  go_wp2_with fail
                  refine (KX.out _).mono ?_
                  rintro e w9 ⟨rfl, rfl⟩
                  go_wp2_with fail
                  exact ⟨⟨j + 1, congrArg (Value.int .i64) f4.out, Lib.hid r2, B8⟩, less_at r2 f4.out⟩
                · go_wp2_with fail
                  refine NX.out.mono ?_
                  rintro e w8 ⟨rfl, b8⟩
                  have d1 := dec.keeps b8 c1
                  have B8 := Lib.hid (bnext hb.out b8)
                  clear b8
                  go_wp2_with fail
                  exact ⟨⟨j + 1, congrArg (Value.int .i64) f4.out, Lib.hid r2, B8⟩, less_at r2 f4.out⟩
              · have r3 : (xk == 1) = false := by rw [beq_eq_false_iff_ne]; exact hk
                clear x1 x2 hk
                go_wp2_with fail
                exact ⟨⟨j + 1, congrArg (Value.int .i64) f4.out, Lib.hid r2, hb⟩, less_at r2 f4.out⟩
            · have r1 : decide ((j : Int) < (z : Int)) = false := decide_eq_false (by omega)
              have r2 : decide (j < z) = false := decide_eq_false hlt
              have B9 := Lib.hid (bnext B7.out hb.out)
              go_wp2_with fail
              go_ret
              exact ⟨rfl, B9.out⟩
        have e2 : (xt.toList == s.toList) = true := by rw [beq_iff_eq, h2]
        · have e3 : (xa == 0) = false := by rw [beq_eq_false_iff_ne]; exact fun e => NN ⟨h1, h2, e⟩
          clear NN
          go_wp2_with fail
          refine wp_region_quiet_below (by kernel_rfl) (by kernel_rfl) ?_
          repeat (first | go_big_quiet_skip | (go_big_quiet_want; go_big_quiet_op; first | go_big_quiet_on | go_big_quiet_call ((go_at_call 18; exact TA.out _ _))))
          refine wpQuiet_nil ?_
          intro w9 hw9
          have B3 := bnext B4.out (below_of hw9)
          clear hw9
          go_wp2_with fail
          refine (NC.out _ (T0.out.stays B3)).mono ?_
          rintro e w2b ⟨rfl, b5⟩
          replace B3 := bnext B3 b5
          clear b5
          go_wp2_with fail
          refine (KC.out _).mono ?_
          rintro e w2c ⟨rfl, hw2c⟩
          obtain rfl : w2b = w2c := hw2c.symm
          have V3 := Lib.hid B3
          clear B3
          go_wp2_with fail
          refine (TS.out _ (S0.out.keeps V3.out) (T0.out.stays V3.out)).mono ?_
          rintro e w7 ⟨v7, u7, rfl, o7, p7, b7⟩
          obtain ⟨ar, cr, rfl, sr⟩ := o7.sl
          obtain ⟨ax, cx, rfl, sx⟩ := p7.sl
          have B7 := Lib.hid (bnext V3.out b7)
          have SR := Lib.hid sr
          obtain ⟨z, hz⟩ : ∃ z, z = R.length := ⟨_, rfl⟩
          rw [← hz] at SR KL ⊢
          generalize RB.length = zz
          replace hz := Lib.hid hz
          clear o7 p7 sr sx b7 TS
          go_wp2_with fail
          go_loopw [12] (fun vi wr => ∃ j : Nat, vi = .int .i64 (j : Nat) ∧ Hid (j ≤ z) ∧ Hid (Below w7.heap.size w7 wr)) (fun vi _ => z - (intOf vi).toNat)
          case atStart => exact ⟨0, rfl, Lib.hid (Nat.zero_le _), Lib.hid (b0 w7)⟩
          case round =>
            obtain ⟨j, rfl, hj, hb⟩ := hrel
            by_cases hlt : j < z
            · have r1 : decide ((j : Int) < (z : Int)) = true := decide_eq_true (by omega)
              have r2 : j < z := hlt
              have hjl : j < R.length := by have := hz.out; omega
              obtain ⟨bk, off, rfl, hD⟩ := (SR.out.keeps hb.out).hat.resolve_left (by omega)
              obtain ⟨c0, c1, c2⟩ := hD j hjl
              have f4 := Lib.hid (next_at (j := j) (by have := KL.out; have := Z1.out; omega))
              obtain ⟨x1, x2⟩ := TN.out _ (tk.gt_mem hjl)
              clear hD hjl
              generalize tk.gt R j = x at *
              obtain ⟨xk, xt, xa⟩ := x
              simp only at c0 c1 c2 x1 x2
              by_cases hk : xk = 1
              · have r3 : (xk == 1) = true := by rw [hk]; rfl
                have NX := Lib.hid (name_any xt (by have := Z1.out; omega) wr (T0.out.stays (bnext B7.out hb.out)))
                have KX := Lib.hid (fun W => keyword_any xt W)
                have hor := x2 hk
                generalize name xt = a at *
                generalize kw xt = b at *
                clear x1 x2 hk
                cases a
                · have hb1 : b = true := hor
                  subst hb1
                  go_wp2_with fail
                  refine NX.out.mono ?_
                  rintro e w8 ⟨rfl, b8⟩
                  have d1 := dec.keeps b8 c1
                  have B8 := Lib.hid (bnext hb.out b8)
                  clear b8
                  go_wp2_with fail
                  refine (KX.out _).mono ?_
                  rintro e w9 ⟨rfl, rfl⟩
                  go_wp2_with fail
                  exact ⟨⟨j + 1, congrArg (Value.int .i64) f4.out, Lib.hid r2, B8⟩, less_at r2 f4.out⟩
                · go_wp2_with fail
                  refine NX.out.mono ?_
                  rintro e w8 ⟨rfl, b8⟩
                  have d1 := dec.keeps b8 c1
                  have B8 := Lib.hid (bnext hb.out b8)
                  clear b8
                  go_wp2_with fail
                  exact ⟨⟨j + 1, congrArg (Value.int .i64) f4.out, Lib.hid r2, B8⟩, less_at r2 f4.out⟩
              · have r3 : (xk == 1) = false := by rw [beq_eq_false_iff_ne]; exact hk
                clear x1 x2 hk
                go_wp2_with fail
                exact ⟨⟨j + 1, congrArg (Value.int .i64) f4.out, Lib.hid r2, hb⟩, less_at r2 f4.out⟩
            · have r1 : decide ((j : Int) < (z : Int)) = false := decide_eq_false (by omega)
              have r2 : decide (j < z) = false := decide_eq_false hlt
              have B9 := Lib.hid (bnext B7.out hb.out)
              go_wp2_with fail
              go_ret
              exact ⟨rfl, B9.out⟩
      · have e2 : ((k : Int) == 2) = false := by rw [beq_eq_false_iff_ne]; omega
        have e2' : (k == 2) = false := by rw [beq_eq_false_iff_ne]; omega
        have TA := Lib.hid (all_grown TK.out w4)
        subst hm0
        clear sl sb NO hm hk hk2
        go_wp2_with fail
        refine wp_region_quiet_below (by kernel_rfl) (by kernel_rfl) ?_
        repeat (first | go_big_quiet_skip | (go_big_quiet_want; go_big_quiet_op; first | go_big_quiet_on | go_big_quiet_call ((go_at_call 18; exact TA.out _ _))))
        refine wpQuiet_nil ?_
        intro w9 hw9
        have B3 := bnext B4.out (below_of hw9)
        clear hw9
        go_wp2_with fail
        refine (NC.out _ (T0.out.stays B3)).mono ?_
        rintro e w2b ⟨rfl, b5⟩
        replace B3 := bnext B3 b5
        clear b5
        go_wp2_with fail
        refine (KC.out _).mono ?_
        rintro e w2c ⟨rfl, hw2c⟩
        obtain rfl : w2b = w2c := hw2c.symm
        have V3 := Lib.hid B3
        clear B3
        go_wp2_with fail
        refine (TS.out _ (S0.out.keeps V3.out) (T0.out.stays V3.out)).mono ?_
        rintro e w7 ⟨v7, u7, rfl, o7, p7, b7⟩
        obtain ⟨ar, cr, rfl, sr⟩ := o7.sl
        obtain ⟨ax, cx, rfl, sx⟩ := p7.sl
        have B7 := Lib.hid (bnext V3.out b7)
        have SR := Lib.hid sr
        obtain ⟨z, hz⟩ : ∃ z, z = R.length := ⟨_, rfl⟩
        rw [← hz] at SR KL ⊢
        generalize RB.length = zz
        replace hz := Lib.hid hz
        clear o7 p7 sr sx b7 TS
        go_wp2_with fail
        go_loopw [12] (fun vi wr => ∃ j : Nat, vi = .int .i64 (j : Nat) ∧ Hid (j ≤ z) ∧ Hid (Below w7.heap.size w7 wr)) (fun vi _ => z - (intOf vi).toNat)
        case atStart => exact ⟨0, rfl, Lib.hid (Nat.zero_le _), Lib.hid (b0 w7)⟩
        case round =>
          obtain ⟨j, rfl, hj, hb⟩ := hrel
          by_cases hlt : j < z
          · have r1 : decide ((j : Int) < (z : Int)) = true := decide_eq_true (by omega)
            have r2 : j < z := hlt
            have hjl : j < R.length := by have := hz.out; omega
            obtain ⟨bk, off, rfl, hD⟩ := (SR.out.keeps hb.out).hat.resolve_left (by omega)
            obtain ⟨c0, c1, c2⟩ := hD j hjl
            have f4 := Lib.hid (next_at (j := j) (by have := KL.out; have := Z1.out; omega))
            obtain ⟨x1, x2⟩ := TN.out _ (tk.gt_mem hjl)
            clear hD hjl
            generalize tk.gt R j = x at *
            obtain ⟨xk, xt, xa⟩ := x
            simp only at c0 c1 c2 x1 x2
            by_cases hk : xk = 1
            · have r3 : (xk == 1) = true := by rw [hk]; rfl
              have NX := Lib.hid (name_any xt (by have := Z1.out; omega) wr (T0.out.stays (bnext B7.out hb.out)))
              have KX := Lib.hid (fun W => keyword_any xt W)
              have hor := x2 hk
              generalize name xt = a at *
              generalize kw xt = b at *
              clear x1 x2 hk
              cases a
              · have hb1 : b = true := hor
                subst hb1
                go_wp2_with fail
                refine NX.out.mono ?_
                rintro e w8 ⟨rfl, b8⟩
                have d1 := dec.keeps b8 c1
                have B8 := Lib.hid (bnext hb.out b8)
                clear b8
                go_wp2_with fail
                refine (KX.out _).mono ?_
                rintro e w9 ⟨rfl, rfl⟩
                go_wp2_with fail
                exact ⟨⟨j + 1, congrArg (Value.int .i64) f4.out, Lib.hid r2, B8⟩, less_at r2 f4.out⟩
              · go_wp2_with fail
                refine NX.out.mono ?_
                rintro e w8 ⟨rfl, b8⟩
                have d1 := dec.keeps b8 c1
                have B8 := Lib.hid (bnext hb.out b8)
                clear b8
                go_wp2_with fail
                exact ⟨⟨j + 1, congrArg (Value.int .i64) f4.out, Lib.hid r2, B8⟩, less_at r2 f4.out⟩
            · have r3 : (xk == 1) = false := by rw [beq_eq_false_iff_ne]; exact hk
              clear x1 x2 hk
              go_wp2_with fail
              exact ⟨⟨j + 1, congrArg (Value.int .i64) f4.out, Lib.hid r2, hb⟩, less_at r2 f4.out⟩
          · have r1 : decide ((j : Int) < (z : Int)) = false := decide_eq_false (by omega)
            have r2 : decide (j < z) = false := decide_eq_false hlt
            have B9 := Lib.hid (bnext B7.out hb.out)
            go_wp2_with fail
            go_ret
            exact ⟨rfl, B9.out⟩
    · have e1 : ((m : Int) == 0) = false := by rw [beq_eq_false_iff_ne]; omega
      have e1' : (m == 0) = false := by rw [beq_eq_false_iff_ne]; omega
      have TA := Lib.hid (all_grown TK.out w4)
      clear sl sb NO hm hk hm0
      go_wp2_with fail
      refine wp_region_quiet_below (by kernel_rfl) (by kernel_rfl) ?_
      repeat (first | go_big_quiet_skip | (go_big_quiet_want; go_big_quiet_op; first | go_big_quiet_on | go_big_quiet_call ((go_at_call 18; exact TA.out _ _))))
      refine wpQuiet_nil ?_
      intro w9 hw9
      have B3 := bnext B4.out (below_of hw9)
      clear hw9
      go_wp2_with fail
      refine (NC.out _ (T0.out.stays B3)).mono ?_
      rintro e w2b ⟨rfl, b5⟩
      replace B3 := bnext B3 b5
      clear b5
      go_wp2_with fail
      refine (KC.out _).mono ?_
      rintro e w2c ⟨rfl, hw2c⟩
      obtain rfl : w2b = w2c := hw2c.symm
      have V3 := Lib.hid B3
      clear B3
      go_wp2_with fail
      refine (TS.out _ (S0.out.keeps V3.out) (T0.out.stays V3.out)).mono ?_
      rintro e w7 ⟨v7, u7, rfl, o7, p7, b7⟩
      obtain ⟨ar, cr, rfl, sr⟩ := o7.sl
      obtain ⟨ax, cx, rfl, sx⟩ := p7.sl
      have B7 := Lib.hid (bnext V3.out b7)
      have SR := Lib.hid sr
      obtain ⟨z, hz⟩ : ∃ z, z = R.length := ⟨_, rfl⟩
      rw [← hz] at SR KL ⊢
      generalize RB.length = zz
      replace hz := Lib.hid hz
      clear o7 p7 sr sx b7 TS
      go_wp2_with fail
      go_loopw [12] (fun vi wr => ∃ j : Nat, vi = .int .i64 (j : Nat) ∧ Hid (j ≤ z) ∧ Hid (Below w7.heap.size w7 wr)) (fun vi _ => z - (intOf vi).toNat)
      case atStart => exact ⟨0, rfl, Lib.hid (Nat.zero_le _), Lib.hid (b0 w7)⟩
      case round =>
        obtain ⟨j, rfl, hj, hb⟩ := hrel
        by_cases hlt : j < z
        · have r1 : decide ((j : Int) < (z : Int)) = true := decide_eq_true (by omega)
          have r2 : j < z := hlt
          have hjl : j < R.length := by have := hz.out; omega
          obtain ⟨bk, off, rfl, hD⟩ := (SR.out.keeps hb.out).hat.resolve_left (by omega)
          obtain ⟨c0, c1, c2⟩ := hD j hjl
          have f4 := Lib.hid (next_at (j := j) (by have := KL.out; have := Z1.out; omega))
          obtain ⟨x1, x2⟩ := TN.out _ (tk.gt_mem hjl)
          clear hD hjl
          generalize tk.gt R j = x at *
          obtain ⟨xk, xt, xa⟩ := x
          simp only at c0 c1 c2 x1 x2
          by_cases hk : xk = 1
          · have r3 : (xk == 1) = true := by rw [hk]; rfl
            have NX := Lib.hid (name_any xt (by have := Z1.out; omega) wr (T0.out.stays (bnext B7.out hb.out)))
            have KX := Lib.hid (fun W => keyword_any xt W)
            have hor := x2 hk
            generalize name xt = a at *
            generalize kw xt = b at *
            clear x1 x2 hk
            cases a
            · have hb1 : b = true := hor
              subst hb1
              go_wp2_with fail
              refine NX.out.mono ?_
              rintro e w8 ⟨rfl, b8⟩
              have d1 := dec.keeps b8 c1
              have B8 := Lib.hid (bnext hb.out b8)
              clear b8
              go_wp2_with fail
              refine (KX.out _).mono ?_
              rintro e w9 ⟨rfl, rfl⟩
              go_wp2_with fail
              exact ⟨⟨j + 1, congrArg (Value.int .i64) f4.out, Lib.hid r2, B8⟩, less_at r2 f4.out⟩
            · go_wp2_with fail
              refine NX.out.mono ?_
              rintro e w8 ⟨rfl, b8⟩
              have d1 := dec.keeps b8 c1
              have B8 := Lib.hid (bnext hb.out b8)
              clear b8
              go_wp2_with fail
              exact ⟨⟨j + 1, congrArg (Value.int .i64) f4.out, Lib.hid r2, B8⟩, less_at r2 f4.out⟩
          · have r3 : (xk == 1) = false := by rw [beq_eq_false_iff_ne]; exact hk
            clear x1 x2 hk
            go_wp2_with fail
            exact ⟨⟨j + 1, congrArg (Value.int .i64) f4.out, Lib.hid r2, hb⟩, less_at r2 f4.out⟩
        · have r1 : decide ((j : Int) < (z : Int)) = false := decide_eq_false (by omega)
          have r2 : decide (j < z) = false := decide_eq_false hlt
          have B9 := Lib.hid (bnext B7.out hb.out)
          go_wp2_with fail
          go_ret
          exact ⟨rfl, B9.out⟩
  · obtain ⟨hL, hM⟩ := YES.out rfl
    clear YES NO
    subst hL
    subst hM
    cases n
    rotate_left
    · have hc : c = false := by cases c <;> first | rfl | cases EA
      subst hc
      clear EO EA
      go_enter Tryd.func7, Tryd.ntmps7
      go_wp2_with fail
      refine EX.out.mono ?_
      rintro e w1 ⟨rfl, b1⟩
      have B1 := Lib.hid b1
      clear b1
      go_wp2_with fail
      refine (NC.out _ (T0.out.stays B1.out)).mono ?_
      rintro e w2 ⟨rfl, b2⟩
      have B2 := Lib.hid (bnext B1.out b2)
      clear b2
      go_wp2_with fail
      refine (KC.out _).mono ?_
      rintro e w2' ⟨rfl, hw2⟩
      obtain rfl : w2 = w2' := hw2.symm
      obtain ⟨w3, cv, hcv, hB, b3⟩ := bytes_of w2 s (by have := Z0.out; omega)
      have B3' := Lib.hid (bnext B2.out b3)
      have BS := Lib.hid hB
      clear b3 hB
      go_wp2_with fail
      refine (TC.out _ _ _ _ BS.out (T0.out.stays B3'.out)).mono ?_
      rintro e w4 ⟨v, u, rfl, o4, p4, b4⟩
      obtain ⟨al, cl, rfl, sl⟩ := o4.sl
      obtain ⟨ab, cb, rfl, sb⟩ := p4.sl
      have B4 := Lib.hid (bnext B3'.out b4)
      clear o4 p4 b4
      obtain ⟨bk, off, rfl, hD⟩ := sl.hat.resolve_left (by simp)
      obtain ⟨c0, c1, c2⟩ := hD 0 (by simp)
      rw [Nat.zero_mul, Nat.add_zero] at c0 c1 c2
      simp only [tk.gt, List.getD_cons_zero] at c0 c1 c2
      have TA := Lib.hid (all_grown TK.out w4)
      clear sl sb hD
      go_wp2_with fail
      have g0 := cell_regrown c0
      have g1 := cell_regrown c1
      have g2 := cell_regrown c2
      refine wp_region_quiet_below (by kernel_rfl) (by kernel_rfl) ?_
      repeat (first | go_big_quiet_skip | (go_big_quiet_want; go_big_quiet_op; first | go_big_quiet_on | go_big_quiet_call ((go_at_call 18; exact TA.out _ _))))
      refine wpQuiet_nil ?_
      intro w9 hw9
      have B3 := bnext B4.out (below_of hw9)
      clear hw9
      go_wp2_with fail
      refine (NC.out _ (T0.out.stays B3)).mono ?_
      rintro e w2b ⟨rfl, b5⟩
      replace B3 := bnext B3 b5
      clear b5
      have V3 := Lib.hid B3
      clear B3
      go_wp2_with fail
      refine (TS.out _ (S0.out.keeps V3.out) (T0.out.stays V3.out)).mono ?_
      rintro e w7 ⟨v7, u7, rfl, o7, p7, b7⟩
      obtain ⟨ar, cr, rfl, sr⟩ := o7.sl
      obtain ⟨ax, cx, rfl, sx⟩ := p7.sl
      have B7 := Lib.hid (bnext V3.out b7)
      have SR := Lib.hid sr
      obtain ⟨z, hz⟩ : ∃ z, z = R.length := ⟨_, rfl⟩
      rw [← hz] at SR KL ⊢
      generalize RB.length = zz
      replace hz := Lib.hid hz
      clear o7 p7 sr sx b7 TS
      go_wp2_with fail
      go_loopw [12] (fun vi wr => ∃ j : Nat, vi = .int .i64 (j : Nat) ∧ Hid (j ≤ z) ∧ Hid (Below w7.heap.size w7 wr)) (fun vi _ => z - (intOf vi).toNat)
      case atStart => exact ⟨0, rfl, Lib.hid (Nat.zero_le _), Lib.hid (b0 w7)⟩
      case round =>
        obtain ⟨j, rfl, hj, hb⟩ := hrel
        by_cases hlt : j < z
        · have r1 : decide ((j : Int) < (z : Int)) = true := decide_eq_true (by omega)
          have r2 : j < z := hlt
          have hjl : j < R.length := by have := hz.out; omega
          obtain ⟨bk, off, rfl, hD⟩ := (SR.out.keeps hb.out).hat.resolve_left (by omega)
          obtain ⟨c0, c1, c2⟩ := hD j hjl
          have f4 := Lib.hid (next_at (j := j) (by have := KL.out; have := Z1.out; omega))
          obtain ⟨x1, x2⟩ := TN.out _ (tk.gt_mem hjl)
          clear hD hjl
          generalize tk.gt R j = x at *
          obtain ⟨xk, xt, xa⟩ := x
          simp only at c0 c1 c2 x1 x2
          by_cases hk : xk = 1
          · have r3 : (xk == 1) = true := by rw [hk]; rfl
            have NX := Lib.hid (name_any xt (by have := Z1.out; omega) wr (T0.out.stays (bnext B7.out hb.out)))
            have KX := Lib.hid (fun W => keyword_any xt W)
            have hor := x2 hk
            generalize name xt = a at *
            generalize kw xt = b at *
            clear x1 x2 hk
            cases a
            · have hb1 : b = true := hor
              subst hb1
              go_wp2_with fail
              refine NX.out.mono ?_
              rintro e w8 ⟨rfl, b8⟩
              have d1 := dec.keeps b8 c1
              have B8 := Lib.hid (bnext hb.out b8)
              clear b8
              go_wp2_with fail
              refine (KX.out _).mono ?_
              rintro e w9 ⟨rfl, rfl⟩
              go_wp2_with fail
              exact ⟨⟨j + 1, congrArg (Value.int .i64) f4.out, Lib.hid r2, B8⟩, less_at r2 f4.out⟩
            · go_wp2_with fail
              refine NX.out.mono ?_
              rintro e w8 ⟨rfl, b8⟩
              have d1 := dec.keeps b8 c1
              have B8 := Lib.hid (bnext hb.out b8)
              clear b8
              go_wp2_with fail
              exact ⟨⟨j + 1, congrArg (Value.int .i64) f4.out, Lib.hid r2, B8⟩, less_at r2 f4.out⟩
          · have r3 : (xk == 1) = false := by rw [beq_eq_false_iff_ne]; exact hk
            clear x1 x2 hk
            go_wp2_with fail
            exact ⟨⟨j + 1, congrArg (Value.int .i64) f4.out, Lib.hid r2, hb⟩, less_at r2 f4.out⟩
        · have r1 : decide ((j : Int) < (z : Int)) = false := decide_eq_false (by omega)
          have r2 : decide (j < z) = false := decide_eq_false hlt
          have B9 := Lib.hid (bnext B7.out hb.out)
          go_wp2_with fail
          go_ret
          exact ⟨rfl, B9.out⟩
    · have hc : c = true := EO
      subst hc
      clear EO EA
      go_enter Tryd.func7, Tryd.ntmps7
      go_wp2_with fail
      refine EX.out.mono ?_
      rintro e w1 ⟨rfl, b1⟩
      have B1 := Lib.hid b1
      clear b1
      go_wp2_with fail
      refine (NC.out _ (T0.out.stays B1.out)).mono ?_
      rintro e w2 ⟨rfl, b2⟩
      have B2 := Lib.hid (bnext B1.out b2)
      clear b2
      obtain ⟨w3, cv, hcv, hB, b3⟩ := bytes_of w2 s (by have := Z0.out; omega)
      have B3' := Lib.hid (bnext B2.out b3)
      have BS := Lib.hid hB
      clear b3 hB
      go_wp2_with fail
      refine (TC.out _ _ _ _ BS.out (T0.out.stays B3'.out)).mono ?_
      rintro e w4 ⟨v, u, rfl, o4, p4, b4⟩
      obtain ⟨al, cl, rfl, sl⟩ := o4.sl
      obtain ⟨ab, cb, rfl, sb⟩ := p4.sl
      have B4 := Lib.hid (bnext B3'.out b4)
      clear o4 p4 b4
      obtain ⟨bk, off, rfl, hD⟩ := sl.hat.resolve_left (by simp)
      obtain ⟨c0, c1, c2⟩ := hD 0 (by simp)
      rw [Nat.zero_mul, Nat.add_zero] at c0 c1 c2
      simp only [tk.gt, List.getD_cons_zero] at c0 c1 c2
      have TA := Lib.hid (all_grown TK.out w4)
      clear sl sb hD
      go_wp2_with fail
      have g0 := cell_regrown c0
      have g1 := cell_regrown c1
      have g2 := cell_regrown c2
      refine wp_region_quiet_below (by kernel_rfl) (by kernel_rfl) ?_
      repeat (first | go_big_quiet_skip | (go_big_quiet_want; go_big_quiet_op; first | go_big_quiet_on | go_big_quiet_call ((go_at_call 18; exact TA.out _ _))))
      refine wpQuiet_nil ?_
      intro w9 hw9
      have B3 := bnext B4.out (below_of hw9)
      clear hw9
      go_wp2_with fail
      refine (NC.out _ (T0.out.stays B3)).mono ?_
      rintro e w2b ⟨rfl, b5⟩
      replace B3 := bnext B3 b5
      clear b5
      go_wp2_with fail
      refine (KC.out _).mono ?_
      rintro e w2c ⟨rfl, hw2c⟩
      obtain rfl : w2b = w2c := hw2c.symm
      have V3 := Lib.hid B3
      clear B3
      go_wp2_with fail
      refine (TS.out _ (S0.out.keeps V3.out) (T0.out.stays V3.out)).mono ?_
      rintro e w7 ⟨v7, u7, rfl, o7, p7, b7⟩
      obtain ⟨ar, cr, rfl, sr⟩ := o7.sl
      obtain ⟨ax, cx, rfl, sx⟩ := p7.sl
      have B7 := Lib.hid (bnext V3.out b7)
      have SR := Lib.hid sr
      obtain ⟨z, hz⟩ : ∃ z, z = R.length := ⟨_, rfl⟩
      rw [← hz] at SR KL ⊢
      generalize RB.length = zz
      replace hz := Lib.hid hz
      clear o7 p7 sr sx b7 TS
      go_wp2_with fail
      go_loopw [12] (fun vi wr => ∃ j : Nat, vi = .int .i64 (j : Nat) ∧ Hid (j ≤ z) ∧ Hid (Below w7.heap.size w7 wr)) (fun vi _ => z - (intOf vi).toNat)
      case atStart => exact ⟨0, rfl, Lib.hid (Nat.zero_le _), Lib.hid (b0 w7)⟩
      case round =>
        obtain ⟨j, rfl, hj, hb⟩ := hrel
        by_cases hlt : j < z
        · have r1 : decide ((j : Int) < (z : Int)) = true := decide_eq_true (by omega)
          have r2 : j < z := hlt
          have hjl : j < R.length := by have := hz.out; omega
          obtain ⟨bk, off, rfl, hD⟩ := (SR.out.keeps hb.out).hat.resolve_left (by omega)
          obtain ⟨c0, c1, c2⟩ := hD j hjl
          have f4 := Lib.hid (next_at (j := j) (by have := KL.out; have := Z1.out; omega))
          obtain ⟨x1, x2⟩ := TN.out _ (tk.gt_mem hjl)
          clear hD hjl
          generalize tk.gt R j = x at *
          obtain ⟨xk, xt, xa⟩ := x
          simp only at c0 c1 c2 x1 x2
          by_cases hk : xk = 1
          · have r3 : (xk == 1) = true := by rw [hk]; rfl
            have NX := Lib.hid (name_any xt (by have := Z1.out; omega) wr (T0.out.stays (bnext B7.out hb.out)))
            have KX := Lib.hid (fun W => keyword_any xt W)
            have hor := x2 hk
            generalize name xt = a at *
            generalize kw xt = b at *
            clear x1 x2 hk
            cases a
            · have hb1 : b = true := hor
              subst hb1
              go_wp2_with fail
              refine NX.out.mono ?_
              rintro e w8 ⟨rfl, b8⟩
              have d1 := dec.keeps b8 c1
              have B8 := Lib.hid (bnext hb.out b8)
              clear b8
              go_wp2_with fail
              refine (KX.out _).mono ?_
              rintro e w9 ⟨rfl, rfl⟩
              go_wp2_with fail
              exact ⟨⟨j + 1, congrArg (Value.int .i64) f4.out, Lib.hid r2, B8⟩, less_at r2 f4.out⟩
            · go_wp2_with fail
              refine NX.out.mono ?_
              rintro e w8 ⟨rfl, b8⟩
              have d1 := dec.keeps b8 c1
              have B8 := Lib.hid (bnext hb.out b8)
              clear b8
              go_wp2_with fail
              exact ⟨⟨j + 1, congrArg (Value.int .i64) f4.out, Lib.hid r2, B8⟩, less_at r2 f4.out⟩
          · have r3 : (xk == 1) = false := by rw [beq_eq_false_iff_ne]; exact hk
            clear x1 x2 hk
            go_wp2_with fail
            exact ⟨⟨j + 1, congrArg (Value.int .i64) f4.out, Lib.hid r2, hb⟩, less_at r2 f4.out⟩
        · have r1 : decide ((j : Int) < (z : Int)) = false := decide_eq_false (by omega)
          have r2 : decide (j < z) = false := decide_eq_false hlt
          have B9 := Lib.hid (bnext B7.out hb.out)
          go_wp2_with fail
          go_ret
          exact ⟨rfl, B9.out⟩
end Go.Proofs.YtkfciilclfhabaaDoor

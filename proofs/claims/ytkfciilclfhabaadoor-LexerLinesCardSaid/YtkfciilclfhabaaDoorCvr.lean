/-
  LexerCovers: the walk.
-/
import Derived.Test.YtkfciilclfhabaaDoorCvf
namespace Go.Proofs.YtkfciilclfhabaaDoor
open Go.RowKit dec

theorem ret_true {v : Value} {b : Bool} (h : v = .bool b) (hb : b = true) : Ending.returned v = .returned (.bool true) := by rw [h, hb]
set_option pp.deepTerms true in
set_option pp.deepTerms.threshold 200 in
set_option maxRecDepth 100000 in
set_option maxHeartbeats 8000000 in
theorem walk_covers (a0 : Option Addr) (n0 cap : Nat) (s : ByteArray) (w : World) (hS : Bs w a0 n0 cap s) (T : Tabs w) :
    Calls Tryd.prog 4 #[.slice a0 n0 cap] w fun e w' => e = .returned (.bool true) ∧ Below w.heap.size w w' := by
  have hn0 := hS.hn
  subst hn0
  have EX := Lib.hid (example_any w T)
  have T0 := Lib.hid T
  have S0 := Lib.hid hS
  clear T hS
  by_cases hbig : 3000 < s.size
  · have q1 : decide (3000 < (s.size : Int)) = true := decide_eq_true (by omega)
    clear hbig
    go_enter Tryd.func4, Tryd.ntmps4
    go_wp2_with fail
    refine EX.out.mono ?_
    rintro e w1 ⟨rfl, b1⟩
    have B1 := Lib.hid b1
    clear b1
    go_wp2_with fail
    go_ret
    exact ⟨rfl, B1.out⟩
  · have q1 : decide (3000 < (s.size : Int)) = false := decide_eq_false (by omega)
    have Z0 := Lib.hid (show s.size ≤ 3000 by omega)
    clear hbig
    go_enter Tryd.func4, Tryd.ntmps4
    go_wp2_with fail
    refine EX.out.mono ?_
    rintro e w1 ⟨rfl, b1⟩
    have S1 := Lib.hid (S0.out.keeps b1)
    have TC := Lib.hid (tokens_any _ _ _ s w1 S1.out (T0.out.stays b1))
    unfold TR at TC
    rw [show tokE s = 0 by unfold tokE; rw [if_neg (by have := Z0.out; omega)]] at TC
    have B1 := Lib.hid b1
    clear b1
    go_wp2_with fail
    refine TC.out.mono ?_
    rintro e w2 ⟨v, u, rfl, o2, p2, b2⟩
    obtain ⟨al, cl, rfl, sl⟩ := o2.sl
    obtain ⟨ab, cb, rfl, sb⟩ := p2.sl
    have S2 := Lib.hid (S1.out.keeps b2)
    have B2 := Lib.hid (bnext B1.out b2)
    obtain ⟨hk1, hk2, hk3⟩ := tokL_last s (by have := Z0.out; omega)
    have hk4 := tokB_few s
    have CV := Lib.hid (cov_tok s (by have := Z0.out; omega))
    have CB := Lib.hid (covB_tok s (by have := Z0.out; omega))
    obtain ⟨L, hL⟩ : ∃ L, L = tokL s := ⟨_, rfl⟩
    obtain ⟨M, hM⟩ : ∃ M, M = tokB s := ⟨_, rfl⟩
    rw [← hL] at hk1 hk2 hk3 CV sl ⊢
    rw [← hM] at hk4 CB sb ⊢
    have SL := Lib.hid sl
    have SB := Lib.hid sb
    obtain ⟨k, hk⟩ : ∃ k, k = L.length := ⟨_, rfl⟩
    obtain ⟨m, hm⟩ : ∃ m, m = M.length := ⟨_, rfl⟩
    rw [← hk] at SL hk1 hk2 hk3 ⊢
    rw [← hm] at SB hk4 ⊢
    have HK := Lib.hid (show 1 ≤ k ∧ k ≤ 3001 ∧ k = L.length ∧ tk.gt L (k - 1) = endT s from ⟨hk1, by have := Z0.out; omega, hk, hk3⟩)
    have HM := Lib.hid (show m ≤ 32 ∧ m = M.length from ⟨hk4, hm⟩)
    have e1 : ((k : Int) == 0) = false := by rw [beq_eq_false_iff_ne]; omega
    have e2 : decide (32 < (m : Int)) = false := decide_eq_false (by omega)
    clear hk1 hk2 hk3 hk4 hL hM hk hm sl sb o2 p2 b2 TC
    go_wp2_with fail
    go_loopw [6, 7] (fun ve vi wr => ∃ j p : Nat, ve = .int .i64 (p : Nat) ∧ vi = .int .i64 (j : Nat) ∧ Hid (j ≤ k) ∧ Hid (p ≤ s.size ∧ CvL s p (L.drop j)) ∧ Hid (Below w2.heap.size w2 wr)) (fun _ vi _ => k - (intOf vi).toNat)
    case atStart => exact ⟨0, 0, rfl, rfl, Lib.hid (Nat.zero_le _), Lib.hid ⟨Nat.zero_le _, CV.out⟩, Lib.hid (b0 w2)⟩
    case round =>
      obtain ⟨j, p, rfl, rfl, hj, hC, hb⟩ := hrel
      by_cases hlt : j < k
      · have q2 : decide ((j : Int) < (k : Int)) = true := decide_eq_true (by omega)
        have q3 : j < k := hlt
        have hjl : j < L.length := by have := HK.out.2.2.1; omega
        obtain ⟨bk, off, rfl, hD⟩ := (SL.out.keeps hb.out).hat.resolve_left (by omega)
        obtain ⟨c0, c1, c2⟩ := hD j hjl
        have f4 := Lib.hid (next_at (j := j) (by have := HK.out; omega))
        have hC1 := hC.out.2
        rw [tk.drop_gt hjl] at hC1
        obtain ⟨a, x1, x2, x3, x4, x5, x6⟩ := hC1
        have x7 := so_len (tk.gt L j)
        have RS := Lib.hid (rsource_any (tk.gt L j) (by have := Z0.out; omega))
        obtain ⟨S, hSq⟩ : ∃ S : ByteArray, S = ⟨(so (tk.gt L j)).toArray⟩ := ⟨_, rfl⟩
        have hSz : S.size = (so (tk.gt L j)).length := by rw [← str_len, hSq]
        have hcut := ba_so s hSq x4
        rw [← hSq] at RS
        rw [← hSz] at x3 x6 hcut
        have hlast : (tk.gt L j).k = 6 ↔ j = k - 1 := by
          rw [x5, List.drop_eq_nil_iff]
          have := HK.out
          omega
        have X6 := Lib.hid x6
        have hP := hC.out.1
        clear x5 x4 x6 x7 hSz hSq hC hD hjl
        generalize tk.gt L j = x at *
        obtain ⟨xk, xt, xa⟩ := x
        simp only at x1 c0 c1 c2 hlast RS
        subst x1
        have q4 : decide ((a : Int) < (p : Int)) = false := decide_eq_false (by omega)
        have p4 : decide (a < p) = false := decide_eq_false (by omega)
        have p5 : decide (s.size - S.size < a) = false := decide_eq_false (by omega)
        have f5 : wrap64 ((s.size : Int) - (S.size : Int)) = ((s.size - S.size : Nat) : Int) := by have := Z0.out; unfold wrap64; omega
        have q5 : decide (((s.size - S.size : Nat) : Int) < (a : Int)) = false := decide_eq_false (by omega)
        have f6 : wrap64 ((a : Int) + (S.size : Int)) = ((a + S.size : Nat) : Int) := by have := Z0.out; unfold wrap64; omega
        have f7 : wrap64 ((k : Int) - 1) = ((k - 1 : Nat) : Int) := by have := HK.out; unfold wrap64; omega
        have q6 : ((xk == 6) != ((j : Int) == ((k - 1 : Nat) : Int))) = false := by
          rw [eqb, eqb]
          by_cases h : xk = 6
          · rw [decide_eq_true h, decide_eq_true (show (j : Int) = ((k - 1 : Nat) : Int) by rw [hlast.1 h])]; rfl
          · rw [decide_eq_false h, decide_eq_false (show ¬ (j : Int) = ((k - 1 : Nat) : Int) from fun e => h (hlast.2 (by omega)))]; rfl
        have q8 : (!((xk == 6) == ((j : Int) == ((k - 1 : Nat) : Int)))) = false := q6
        have q7 : (S.toList != S.toList) = false := by simp
        go_wp2_with fail
        refine (RS.out _).mono ?_
        rintro e w4 ⟨rfl, b4⟩
        have d0 := dec.keeps b4 c0
        have d1 := dec.keeps b4 c1
        have d2 := dec.keeps b4 c2
        have B4 := Lib.hid (bnext hb.out b4)
        obtain ⟨a5, c5, hsl, hBs⟩ := ((S2.out.keeps hb.out).keeps b4).cut (i := a) (m := S.size) (by omega)
        have hst : ∀ d os, (convert 24 9 (.slice a5 S.size c5)).run Tryd.prog (Sort.grow (redrawn w4 d) os) = .ok (.string S) (Sort.grow (redrawn w4 d) os) := fun d os => by
          have := (hBs.keeps (below_regrown w4 d os)).str
          rw [hcut] at this
          exact this
        have hsl1 := hsl
        rw [Int.natCast_add] at hsl1
        have hsl2 := hsl
        rw [← f6] at hsl2
        clear c0 c1 c2 b4 hBs hcut
        go_wp2_with fail
        have g0 := cell_regrown d0
        have g1 := cell_regrown d1
        have g2 := cell_regrown d2
        refine wp_region_quiet_below (by kernel_rfl) (by kernel_rfl) ?_
        repeat (first | go_big_quiet_skip | (go_big_quiet_want; go_big_quiet_op; go_big_quiet_on))
        refine wpQuiet_nil ?_
        intro w9 hw9
        have B9 := Lib.hid (bnext B4.out (below_of hw9))
        have d2 := g2
        obtain ⟨p9, rfl⟩ := hw9
        replace d2 := g2 p9.d p9.os
        clear g0 g1 g2 d0 d1 hsl hsl1 hsl2 hst
        generalize Sort.grow (redrawn w4 p9.d) p9.os = w9 at *
        go_wp2_with fail
        refine ⟨⟨j + 1, a + S.size, congrArg (Value.int .i64) f6, congrArg (Value.int .i64) f4.out, Lib.hid q3, Lib.hid ⟨x3, X6.out⟩, B9⟩, less_at q3 f4.out⟩
      · have q2 : decide ((j : Int) < (k : Int)) = false := decide_eq_false (by omega)
        have W2 := Lib.hid hb.out
        have q3 : decide (j < k) = false := decide_eq_false hlt
        clear hC hj hlt
        go_wp2_with fail
        go_loopw [9] (fun vi wz => ∃ j : Nat, vi = .int .i64 (j : Nat) ∧ Hid (j ≤ m) ∧ Hid (Below wr.heap.size wr wz)) (fun vi _ => m - (intOf vi).toNat)
        case atStart => exact ⟨0, rfl, Lib.hid (Nat.zero_le _), Lib.hid (b0 wr)⟩
        case round =>
          obtain ⟨i, rfl, hi, hz⟩ := hrel
          by_cases hlt : i < m
          · have r1 : decide ((i : Int) < (m : Int)) = true := decide_eq_true (by omega)
            have r2 : i < m := hlt
            have hil : i < M.length := by have := HM.out.2; omega
            obtain ⟨bk, off, rfl, hD⟩ := ((SB.out.keeps W2.out).keeps hz.out).hat.resolve_left (by omega)
            obtain ⟨c0, c1⟩ := hD i hil
            have f4 := Lib.hid (next_at (j := i) (by have := HM.out; omega))
            obtain ⟨a, x1, x2, x3, x4, x5⟩ := covB_at i CB.out hil
            have p1 : decide ((a : Int) < 0) = false := decide_eq_false (by omega)
            have p2 : decide ((s.size : Int) ≤ (a : Int)) = false := decide_eq_false (by omega)
            have p2' : decide (s.size ≤ a) = false := decide_eq_false (by omega)
            by_cases h0 : i = 0
            · have p3 : decide ((0 : Int) < (i : Int)) = false := decide_eq_false (by omega)
              have p3' : decide (0 < i) = false := decide_eq_false (by omega)
              clear x5 hD h0
              generalize pb.gt M i = x at *
              obtain ⟨xa, xc⟩ := x
              simp only at x1 c0 c1 x4
              subst x1
              have p4 : (xc == 0) = false := by rw [beq_eq_false_iff_ne]; exact x4
              go_wp2_with fail
              have g0 := cell_regrown c0
              have g1 := cell_regrown c1
              refine wp_region_quiet_below (by kernel_rfl) (by kernel_rfl) ?_
              repeat (first | go_big_quiet_skip | (go_big_quiet_want; go_big_quiet_op; go_big_quiet_on))
              refine wpQuiet_nil ?_
              intro w9 hw9
              have B9 := Lib.hid (bnext hz.out (below_of hw9))
              clear hw9
              go_wp2_with fail
              exact ⟨⟨i + 1, congrArg (Value.int .i64) f4.out, Lib.hid r2, B9⟩, less_at r2 f4.out⟩
            · obtain ⟨d0, d1⟩ := hD (i - 1) (by omega)
              have x6 := x5 (by omega)
              have p3 : decide ((0 : Int) < (i : Int)) = true := decide_eq_true (by omega)
              have p3' : decide (0 < i) = true := decide_eq_true (by omega)
              have p3'' : 0 < i := by omega
              have f8 : wrap64 ((i : Int) - 1) = ((i - 1 : Nat) : Int) := by have := HM.out; unfold wrap64; omega
              clear x5 hD
              generalize pb.gt M i = x at *
              generalize pb.gt M (i - 1) = y at *
              obtain ⟨xa, xc⟩ := x
              obtain ⟨ya, yc⟩ := y
              simp only at x1 c0 c1 x4 d0 d1 x6
              subst x1
              have p4 : (xc == 0) = false := by rw [beq_eq_false_iff_ne]; exact x4
              have p5 : decide ((a : Int) ≤ ya) = false := decide_eq_false (by omega)
              go_wp2_with fail
              have g0 := cell_regrown c0
              have g1 := cell_regrown c1
              have g2 := cell_regrown d0
              refine wp_region_quiet_below (by kernel_rfl) (by kernel_rfl) ?_
              repeat (first | go_big_quiet_skip | (go_big_quiet_want; go_big_quiet_op; go_big_quiet_on))
              refine wpQuiet_nil ?_
              intro w9 hw9
              have B9 := Lib.hid (bnext hz.out (below_of hw9))
              clear hw9
              go_wp2_with fail
              exact ⟨⟨i + 1, congrArg (Value.int .i64) f4.out, Lib.hid r2, B9⟩, less_at r2 f4.out⟩
          · have r1 : decide ((i : Int) < (m : Int)) = false := decide_eq_false (by omega)
            have r2 : decide (i < m) = false := decide_eq_false hlt
            obtain ⟨bk, off, rfl, hD⟩ := ((SL.out.keeps W2.out).keeps hz.out).hat.resolve_left (by have := HK.out; omega)
            have hE := HK.out.2.2.2
            obtain ⟨c0, c1, c2⟩ := hD (k - 1) (by have := HK.out; omega)
            rw [hE] at c0 c1 c2
            simp only [endT] at c0 c1 c2
            have f7 : wrap64 ((k : Int) - 1) = ((k - 1 : Nat) : Int) := by have := HK.out; unfold wrap64; omega
            have f9 : k - 1 < k := by have := HK.out; omega
            have B9 := Lib.hid (bnext B2.out (bnext W2.out hz.out))
            clear hD hE
            go_wp2_with fail
            go_ret
            exact ⟨rfl, B9.out⟩
end Go.Proofs.YtkfciilclfhabaaDoor

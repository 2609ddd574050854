/-
  The statements' helpers: sources, tokens, lists that are the same.
-/
import Derived.Test.YtkfciilclfhabaaGreatDoorTkn
import Derived.Test.YtkfciilclfhabaaGreatDoorHel
namespace Go.Proofs.YtkfciilclfhabaaGreatDoor
open Go.RowKit dec

theorem below_of {w w' : World} (h : ∃ p : Regrown, w' = Sort.grow (redrawn w p.d) p.os) : Below w.heap.size w w' := by
  obtain ⟨p, rfl⟩ := h
  exact below_regrown w p.d p.os
theorem all_grown {f : FuncId} {args : Array Value} {v : Value} (h : ∀ W, Calls Tryz.prog f args W fun e w' => e = .returned v ∧ Below W.heap.size W w') (w : World) :
    ∀ d os, Calls Tryz.prog f args (Sort.grow (redrawn w d) os) fun e w'' => e = .returned v ∧ ∃ p : Regrown, w'' = Sort.grow (redrawn w p.d) p.os := fun _ _ => Calls.regrown_of (h _)
set_option maxRecDepth 100000 in
theorem rsource_any (x : Tk) (hs : x.t.size ≤ 1000000) (w : World) :
    Calls Tryz.prog 16 #[.agg #[.int .i64 x.k, .string x.t, .int .i64 x.a]] w fun e w' => e = .returned (.string ⟨(so x).toArray⟩) ∧ Below w.heap.size w w' := by
  have A := add_str [34] x.t.data.toList (by decide) (by rw [str_len]; omega)
  replace A : ∀ W, (Op.stringOp .add ⟨#[34]⟩ x.t).run Tryz.prog W = .ok (.string ⟨(34 :: x.t.data.toList).toArray⟩) W := A
  have B := add_str (34 :: x.t.data.toList) [34] (by rw [List.length_cons, str_len]; omega) (by decide)
  replace B : ∀ W, (Op.stringOp .add ⟨(34 :: x.t.data.toList).toArray⟩ ⟨#[34]⟩).run Tryz.prog W = .ok (.string ⟨(34 :: (x.t.data.toList ++ [34])).toArray⟩) W := B
  have hb := Lib.hid (balloc (b0 w) (.cells #[.int .i64 x.k, .string x.t, .int .i64 x.a] 39))
  by_cases h : x.k = 4
  · have q1 : (x.k == 4) = true := by rw [h]; rfl
    have hso := Lib.hid (show so x = 34 :: (x.t.data.toList ++ [34]) by unfold so; rw [if_pos h])
    clear hs h
    obtain ⟨k, t, a⟩ := x
    simp only at *
    generalize 34 :: (t.data.toList ++ [34]) = m at *
    generalize 34 :: t.data.toList = l at *
    go_enter Tryz.func16, Tryz.ntmps16
    go_wp2_with fail
    go_ret
    exact ⟨by rw [hso.out]; rfl, hb.out⟩
  · have q1 : (x.k == 4) = false := by rw [beq_eq_false_iff_ne]; exact h
    have hso := Lib.hid (show so x = x.t.data.toList by unfold so; rw [if_neg h])
    clear hs h A B
    obtain ⟨k, t, a⟩ := x
    simp only at *
    go_enter Tryz.func16, Tryz.ntmps16
    go_wp2_with fail
    go_ret
    exact ⟨by rw [hso.out]; rfl, hb.out⟩
/-- Are lists of tokens the same? -/
def smB (far : Bool) (more : Int) : List Tk → List Tk → Bool
  | [], [] => true
  | x :: l, y :: r => decide (x.k = y.k) && (decide (x.t = y.t) && ((!far || decide (wrap64 (x.a + more) = y.a)) && smB far more l r))
  | _, _ => false
theorem smB_len {far : Bool} {more : Int} : ∀ {l r : List Tk}, l.length ≠ r.length → smB far more l r = false
  | [], [], h => absurd rfl h
  | x :: l, y :: r, h => by
    have := smB_len (far := far) (more := more) (l := l) (r := r) (fun e => h (by simp [e]))
    simp [smB, this]
  | [], y :: r, _ => rfl
  | x :: l, [], _ => rfl
set_option maxRecDepth 100000 in
set_option maxHeartbeats 4000000 in
theorem same_any (a : Option Addr) (n cap : Nat) (b : Option Addr) (m cap2 : Nat) (l r : List Tk) (far : Bool) (more : Int) (w : World) (hA : tk.Sl w a n cap l) (hB : tk.Sl w b m cap2 r) :
    Calls Tryz.prog 10 #[.slice a n cap, .slice b m cap2, .bool far, .int .i64 more] w fun e w' => e = .returned (.bool (smB far more l r)) ∧ Below w.heap.size w w' := by
  have h1 := Lib.hid hA
  have h2 := Lib.hid hB
  clear hA hB
  by_cases hnm : n = m
  · subst hnm
    have qn : ((n : Int) != (n : Int)) = false := by simp
    go_enter Tryz.func10, Tryz.ntmps10
    go_wp2_with fail
    go_loopw [9] (fun i wr => ∃ j : Nat, i = .int .i64 (j : Nat) ∧ Hid (j ≤ n) ∧ Hid (smB far more l r = smB far more (l.drop j) (r.drop j)) ∧ Below w.heap.size w wr) (fun i _ => n - (intOf i).toNat)
    case atStart => exact ⟨0, rfl, Lib.hid (Nat.zero_le _), Lib.hid rfl, b0 w⟩
    case round =>
      obtain ⟨j, rfl, hj, ht, hb⟩ := hrel
      by_cases hlt : j < n
      · have q1 : decide ((j : Int) < (n : Int)) = true := decide_eq_true (by omega)
        obtain ⟨A1, hn, hc, hm, _⟩ := h1.out.keeps hb
        obtain ⟨B1, hn2, hc2, hm2, _⟩ := h2.out.keeps hb
        obtain ⟨bk, off, rfl, hC⟩ := A1.resolve_left (by omega)
        obtain ⟨bk2, off2, rfl, hD⟩ := B1.resolve_left (by omega)
        obtain ⟨c0, c1, c2⟩ := hC j (by omega)
        obtain ⟨d0, d1, d2⟩ := hD j (by omega)
        have f4 := Lib.hid (next_at (j := j) (by omega))
        have hbh := Lib.hid hb
        have hst := ht.out
        rw [tk.drop_gt (l := l) (j := j) (by omega), tk.drop_gt (l := r) (j := j) (by omega)] at hst
        clear hC hD A1 B1 h1 h2 ht hj hc hm hc2 hm2 hn hn2 hb
        generalize tk.gt l j = x at *
        generalize tk.gt r j = y at *
        obtain ⟨xk, xt, xa⟩ := x
        obtain ⟨yk, yt, ya⟩ := y
        simp only [smB] at hst c0 c1 c2 d0 d1 d2
        have hk := eqb xk yk
        have htt : (xt.toList == yt.toList) = decide (xt = yt) := by
          rw [Bool.eq_iff_iff, beq_iff_eq, decide_eq_true_eq]
          exact ⟨toList_inj, fun h => by rw [h]⟩
        have haa := eqb (wrap64 (xa + more)) ya
        rw [← hk, ← htt, ← haa] at hst
        clear hk htt haa
        have fin : ∀ q : Bool, Hid (smB far more l r = q) → Hid (smB far more l r = q) := fun _ h => h
        by_cases p1 : xk = yk
        · have e1 : (xk != yk) = false := by rw [bne, beq_iff_eq.2 p1]; rfl
          rw [beq_iff_eq.2 p1, Bool.true_and] at hst
          clear p1
          cases p2 : (xt.toList == yt.toList)
          · have e2 : (xt.toList != yt.toList) = true := by rw [bne, p2]; rfl
            rw [p2, Bool.false_and] at hst
            replace hst := Lib.hid hst
            go_wp2_with fail
            have g0 := cell_regrown c0
            have g1 := cell_regrown c1
            have g2 := cell_regrown c2
            have g3 := cell_regrown d0
            have g4 := cell_regrown d1
            have g5 := cell_regrown d2
            refine wp_region_quiet_below (by kernel_rfl) (by kernel_rfl) ?_
            repeat (first | go_big_quiet_skip | (go_big_quiet_want; go_big_quiet_op; go_big_quiet_on))
            refine wpQuiet_nil ?_
            intro w9 hw9
            have B9 := Lib.hid (bnext hbh.out (below_of hw9))
            clear hw9
            go_wp2_with fail
            go_ret
            exact ⟨ret_bool hst.out.symm, B9.out⟩
          · have e2 : (xt.toList != yt.toList) = false := by rw [bne, p2]; rfl
            rw [p2, Bool.true_and] at hst
            cases far
            · rw [Bool.not_false, Bool.true_or, Bool.true_and] at hst
              replace hst := Lib.hid hst
              go_wp2_with fail
              have g0 := cell_regrown c0
              have g1 := cell_regrown c1
              have g2 := cell_regrown c2
              have g3 := cell_regrown d0
              have g4 := cell_regrown d1
              have g5 := cell_regrown d2
              refine wp_region_quiet_below (by kernel_rfl) (by kernel_rfl) ?_
              repeat (first | go_big_quiet_skip | (go_big_quiet_want; go_big_quiet_op; go_big_quiet_on))
              refine wpQuiet_nil ?_
              intro w9 hw9
              have B9 := Lib.hid (bnext hbh.out (below_of hw9))
              clear hw9
              go_wp2_with fail
              refine ⟨⟨j + 1, by first | exact congrArg (Value.int .i64) f4.out | rfl, Lib.hid hlt, hst, B9.out⟩, by first | exact less_at hlt f4.out | exact less_dn2 hlt⟩
            · rw [Bool.not_true, Bool.false_or] at hst
              cases p3 : (wrap64 (xa + more) == ya)
              · have e3 : (wrap64 (xa + more) != ya) = true := by rw [bne, p3]; rfl
                rw [p3, Bool.false_and] at hst
                replace hst := Lib.hid hst
                go_wp2_with fail
                have g0 := cell_regrown c0
                have g1 := cell_regrown c1
                have g2 := cell_regrown c2
                have g3 := cell_regrown d0
                have g4 := cell_regrown d1
                have g5 := cell_regrown d2
                refine wp_region_quiet_below (by kernel_rfl) (by kernel_rfl) ?_
                repeat (first | go_big_quiet_skip | (go_big_quiet_want; go_big_quiet_op; go_big_quiet_on))
                refine wpQuiet_nil ?_
                intro w9 hw9
                have B9 := Lib.hid (bnext hbh.out (below_of hw9))
                clear hw9
                go_wp2_with fail
                go_ret
                exact ⟨ret_bool hst.out.symm, B9.out⟩
              · have e3 : (wrap64 (xa + more) != ya) = false := by rw [bne, p3]; rfl
                rw [p3, Bool.true_and] at hst
                replace hst := Lib.hid hst
                go_wp2_with fail
                have g0 := cell_regrown c0
                have g1 := cell_regrown c1
                have g2 := cell_regrown c2
                have g3 := cell_regrown d0
                have g4 := cell_regrown d1
                have g5 := cell_regrown d2
                refine wp_region_quiet_below (by kernel_rfl) (by kernel_rfl) ?_
                repeat (first | go_big_quiet_skip | (go_big_quiet_want; go_big_quiet_op; go_big_quiet_on))
                refine wpQuiet_nil ?_
                intro w9 hw9
                have B9 := Lib.hid (bnext hbh.out (below_of hw9))
                clear hw9
                go_wp2_with fail
                refine ⟨⟨j + 1, by first | exact congrArg (Value.int .i64) f4.out | rfl, Lib.hid hlt, hst, B9.out⟩, by first | exact less_at hlt f4.out | exact less_dn2 hlt⟩
        · have e1 : (xk != yk) = true := by rw [bne_iff_ne]; exact p1
          rw [show (xk == yk) = false by rw [beq_eq_false_iff_ne]; exact p1, Bool.false_and] at hst
          replace hst := Lib.hid hst
          clear p1
          go_wp2_with fail
          have g0 := cell_regrown c0
          have g1 := cell_regrown c1
          have g2 := cell_regrown c2
          have g3 := cell_regrown d0
          have g4 := cell_regrown d1
          have g5 := cell_regrown d2
          refine wp_region_quiet_below (by kernel_rfl) (by kernel_rfl) ?_
          repeat (first | go_big_quiet_skip | (go_big_quiet_want; go_big_quiet_op; go_big_quiet_on))
          refine wpQuiet_nil ?_
          intro w9 hw9
          have B9 := Lib.hid (bnext hbh.out (below_of hw9))
          clear hw9
          go_wp2_with fail
          go_ret
          exact ⟨ret_bool hst.out.symm, B9.out⟩
      · have q1 : decide ((j : Int) < (n : Int)) = false := decide_eq_false (by omega)
        have hr := ht.out
        rw [List.drop_eq_nil_of_le (by have := h1.out.hn; omega), List.drop_eq_nil_of_le (by have := h2.out.hn; omega)] at hr
        replace hr := Lib.hid hr
        go_wp2_with fail
        go_ret
        exact ⟨ret_bool (hr.out.trans rfl).symm, hb⟩
  · have hl := smB_len (far := far) (more := more) (l := l) (r := r) (by rw [h1.out.hn, h2.out.hn]; exact hnm)
    have qn : ((n : Int) != (m : Int)) = true := by rw [bne_iff_ne]; omega
    clear h1 h2
    rw [hl]
    go_enter Tryz.func10, Tryz.ntmps10
    go_wp2_with fail
    go_ret
    exact ⟨rfl, b0 w⟩
/-- Are lists of problems equal? -/
def spB (l r : List Pb) : Bool := decide (l = r)
set_option maxRecDepth 100000 in
set_option maxHeartbeats 4000000 in
theorem sameProblems_any (a : Option Addr) (n cap : Nat) (b : Option Addr) (m cap2 : Nat) (l r : List Pb) (w : World) (hA : pb.Sl w a n cap l) (hB : pb.Sl w b m cap2 r) :
    Calls Tryz.prog 11 #[.slice a n cap, .slice b m cap2] w fun e w' => e = .returned (.bool (spB l r)) ∧ Below w.heap.size w w' := by
  have h1 := Lib.hid hA
  have h2 := Lib.hid hB
  clear hA hB
  by_cases hnm : n = m
  · subst hnm
    have qn : ((n : Int) != (n : Int)) = false := by simp
    go_enter Tryz.func11, Tryz.ntmps11
    go_wp2_with fail
    go_loopw [5] (fun i wr => ∃ j : Nat, i = .int .i64 (j : Nat) ∧ Hid (j ≤ n) ∧ Hid (spB l r = spB (l.drop j) (r.drop j)) ∧ Below w.heap.size w wr) (fun i _ => n - (intOf i).toNat)
    case atStart => exact ⟨0, rfl, Lib.hid (Nat.zero_le _), Lib.hid rfl, b0 w⟩
    case round =>
      obtain ⟨j, rfl, hj, ht, hb⟩ := hrel
      by_cases hlt : j < n
      · have q1 : decide ((j : Int) < (n : Int)) = true := decide_eq_true (by omega)
        obtain ⟨A1, hn, hc, hm, _⟩ := h1.out.keeps hb
        obtain ⟨B1, hn2, hc2, hm2, _⟩ := h2.out.keeps hb
        obtain ⟨bk, off, rfl, hC⟩ := A1.resolve_left (by omega)
        obtain ⟨bk2, off2, rfl, hD⟩ := B1.resolve_left (by omega)
        obtain ⟨c0, c1⟩ := hC j (by omega)
        obtain ⟨d0, d1⟩ := hD j (by omega)
        have f4 := Lib.hid (next_at (j := j) (by omega))
        have hbh := Lib.hid hb
        have hst := ht.out
        rw [pb.drop_gt (l := l) (j := j) (by omega), pb.drop_gt (l := r) (j := j) (by omega)] at hst
        clear hC hD A1 B1 h1 h2 ht hj hc hm hc2 hm2 hn hn2 hb
        generalize pb.gt l j = x at *
        generalize pb.gt r j = y at *
        obtain ⟨xk, xa⟩ := x
        obtain ⟨yk, ya⟩ := y
        simp only at c0 c1 d0 d1
        by_cases p1 : xk = yk
        · by_cases p2 : xa = ya
          · have hT := Lib.hid (show spB l r = spB (l.drop (j + 1)) (r.drop (j + 1)) by rw [hst]; unfold spB; rw [p1, p2, decide_eq_decide]; simp)
            clear hst
            go_wp2_with fail
            go_region
            go_wp2_with fail
            refine ⟨⟨j + 1, congrArg (Value.int .i64) f4.out, Lib.hid hlt, hT, hbh.out.drew⟩, less_at hlt f4.out⟩
          · have hT := Lib.hid (show spB l r = false by rw [hst]; unfold spB; rw [decide_eq_false_iff_not]; intro e; exact p2 (Prod.mk.inj (List.cons.inj e).1).2)
            clear hst
            go_wp2_with fail
            go_region
            go_wp2_with fail
            go_ret
            exact ⟨ret_bool hT.out.symm, hbh.out.drew⟩
        · have hT := Lib.hid (show spB l r = false by rw [hst]; unfold spB; rw [decide_eq_false_iff_not]; intro e; exact p1 (Prod.mk.inj (List.cons.inj e).1).1)
          clear hst
          go_wp2_with fail
          go_region
          go_wp2_with fail
          go_ret
          exact ⟨ret_bool hT.out.symm, hbh.out.drew⟩
      · have q1 : decide ((j : Int) < (n : Int)) = false := decide_eq_false (by omega)
        have hr := ht.out
        rw [List.drop_eq_nil_of_le (by have := h1.out.hn; omega), List.drop_eq_nil_of_le (by have := h2.out.hn; omega)] at hr
        replace hr := Lib.hid hr
        go_wp2_with fail
        go_ret
        exact ⟨ret_bool (hr.out.trans rfl).symm, hb⟩
  · have hl := Lib.hid (show spB l r = false by unfold spB; rw [decide_eq_false_iff_not]; intro e; exact hnm (by rw [← h1.out.hn, ← h2.out.hn, e]))
    have qn : ((n : Int) != (m : Int)) = true := by rw [bne_iff_ne]; omega
    clear h1 h2
    go_enter Tryz.func11, Tryz.ntmps11
    go_wp2_with fail
    go_ret
    exact ⟨ret_bool hl.out.symm, b0 w⟩
theorem tok_any (k : Int) (t : ByteArray) (a : Int) (w : World) : Calls Tryz.prog 20 #[.int .i64 k, .string t, .int .i64 a] w fun e w' => e = .returned (.agg #[.int .i64 k, .string t, .int .i64 a]) ∧ Below w.heap.size w w' := by
  have B1 := Lib.hid (balloc (b0 w) (.cells #[.int .i64 k, .string t, .int .i64 a] 39))
  have r := tk.Bw.new w ⟨k, t, a⟩ 39
  have r0 := r.c0
  have r1 := r.c1
  have r2 := r.c2
  clear r
  simp only at r0 r1 r2
  go_enter Tryz.func20, Tryz.ntmps20
  go_wp2_with fail
  exact bodyPost_ret (v := .agg #[.int .i64 k, .string t, .int .i64 a]) (by simp [results, Tryz.results20, go_sem]) rfl ⟨rfl, B1.out⟩
end Go.Proofs.YtkfciilclfhabaaGreatDoor

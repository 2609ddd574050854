/-
  The reference of Buckets; worlds where only memory has grown.
-/
import Derived.Test.YtdhdofgdeljajaaBkt
import Derived.Lib.QuietBelow
namespace Go.Proofs.Ytdhdofgdeljajaa
open Go.RowKit

theorem below_of {w w' : World} (h : ∃ p : Regrown, w' = Sort.grow (redrawn w p.d) p.os) : Below w.heap.size w w' := by
  obtain ⟨p, rfl⟩ := h
  exact below_regrown w p.d p.os
/-- A contract in every world of the class. -/
theorem all_grown {f : FuncId} {args : Array Value} {v : Value} (h : ∀ W, Calls Try.prog f args W fun e w' => e = .returned v ∧ Below W.heap.size W w') (w : World) :
    ∀ d os, Calls Try.prog f args (Sort.grow (redrawn w d) os) fun e w'' => e = .returned v ∧ ∃ p : Regrown, w'' = Sort.grow (redrawn w p.d) p.os := fun _ _ => Calls.regrown_of (h _)
theorem Bw.grown {w : World} {b : Nat} {x y : Int} (h : Bw w b x y) :
    (∀ d os, (Sort.grow (redrawn w d) os).cell? ⟨b, 0, none⟩ = some (.int .i64 x)) ∧ (∀ d os, (Sort.grow (redrawn w d) os).cell? ⟨b, 1, none⟩ = some (.int .i64 y)) := ⟨cell_regrown h.c0, cell_regrown h.c1⟩

set_option maxRecDepth 100000 in
set_option maxHeartbeats 1000000 in
theorem rbuckets_any (x y s : Int) (w : World) : Calls Try.prog 28 #[.agg #[.int .i64 x, .int .i64 y], .int .i64 s] w (Mk (buk (x, y) s) w) := by
  have A := Bw.new w x y 23
  have b1 := balloc (b0 w) (.cells #[.int .i64 x, .int .i64 y] 23)
  have K1 := Lib.hid (all_grown (rvalid_any x y) (w.alloc (.cells #[.int .i64 x, .int .i64 y] 23)))
  have K2 := Lib.hid (all_grown (rtick_b s) (w.alloc (.cells #[.int .i64 x, .int .i64 y] 23)))
  have hbk : Hid (Bk x y s (x / s) (y / s) ∨ okI (x, y) = false ∨ isz s = false) := by
    unfold Hid
    cases h1 : okI (x, y)
    · exact .inr (.inl rfl)
    · cases h2 : isz s
      · exact .inr (.inr rfl)
      · exact .inl (bk_of ((okI_iff _).1 h1) h2)
  have hz : Hid (isz s = (decide (1 ≤ s) && decide (s ≤ 1099511627776))) := rfl
  have ho2 : Hid ((decide (0 ≤ s) && decide (s ≤ 1099511627776)) = true ↔ 0 ≤ s ∧ s ≤ 1099511627776) := by unfold Hid; simp
  obtain ⟨P, hP⟩ : ∃ P, buk (x, y) s = P := ⟨_, rfl⟩
  rw [hP]
  unfold buk cnt at hP
  simp only at hP
  generalize okI (x, y) = o1 at *
  generalize (decide (0 ≤ s) && decide (s ≤ 1099511627776)) = o2 at *
  obtain ⟨g0, g1⟩ := A.grown
  replace hP := Lib.hid hP
  go_enter Try.func28, Try.ntmps28
  replace A := Lib.hid A
  go_wp2_with fail
  generalize w.alloc (.cells #[.int .i64 x, .int .i64 y] 23) = w1 at *
  cases o1
  · obtain rfl : [] = P := hP.out
    refine wp_region_quiet_below (by kernel_rfl) (by kernel_rfl) ?_
    repeat (first | go_big_quiet_skip | quiet_step ((first | (go_at_call 31; exact K1.out _ _) | (go_at_call 41; exact K2.out _ _))))
    refine wpQuiet_nil ?_
    intro w5 hw5
    have hb := below_of hw5
    clear hw5 K1 K2 g0 g1
    replace b1 := bnext b1 hb
    replace A := A.out.keeps hb
    clear hb
    go_wp2_with fail
    go_ret
    exact ⟨_, rfl, Own.nil _ _, b1⟩
  by_cases h1 : s < 1
  · have q1 : decide (s < 1) = true := decide_eq_true h1
    obtain rfl : [] = P := by
      have := hP.out
      rw [hz.out, decide_eq_false (show ¬ 1 ≤ s by omega)] at this
      exact this
    clear h1
    refine wp_region_quiet_below (by kernel_rfl) (by kernel_rfl) ?_
    repeat (first | go_big_quiet_skip | quiet_step ((first | (go_at_call 31; exact K1.out _ _) | (go_at_call 41; exact K2.out _ _))))
    refine wpQuiet_nil ?_
    intro w5 hw5
    have hb := below_of hw5
    clear hw5 K1 K2 g0 g1
    replace b1 := bnext b1 hb
    replace A := A.out.keeps hb
    clear hb
    go_wp2_with fail
    go_ret
    exact ⟨_, rfl, Own.nil _ _, b1⟩
  have q1 : decide (s < 1) = false := decide_eq_false h1
  cases o2
  · obtain rfl : [] = P := by
      have := hP.out
      rw [hz.out] at this
      have h2 := ho2.out
      rw [decide_eq_false (show ¬ s ≤ 1099511627776 by intro h; have := h2.2 ⟨by omega, h⟩; cases this), Bool.and_false] at this
      exact this
    clear h1
    refine wp_region_quiet_below (by kernel_rfl) (by kernel_rfl) ?_
    repeat (first | go_big_quiet_skip | quiet_step ((first | (go_at_call 31; exact K1.out _ _) | (go_at_call 41; exact K2.out _ _))))
    refine wpQuiet_nil ?_
    intro w5 hw5
    have hb := below_of hw5
    clear hw5 K1 K2 g0 g1
    replace b1 := bnext b1 hb
    replace A := A.out.keeps hb
    clear hb
    go_wp2_with fail
    go_ret
    exact ⟨_, rfl, Own.nil _ _, b1⟩
  have hss := ho2.out.1 rfl
  have hs2 : isz s = true := (isz_iff s).2 ⟨by omega, hss.2⟩
  have K : Bk x y s (x / s) (y / s) := by
    rcases hbk.out with h | h | h
    · exact h
    · first | exact h.elim | (exact absurd h (by decide))
    · rw [hs2] at h; cases h
  rw [hs2] at hP
  have e1 : Int.tdiv x s = x / s := Int.tdiv_eq_ediv_of_nonneg K.x0
  have e2 : Int.tdiv y s = y / s := Int.tdiv_eq_ediv_of_nonneg (by have := K.xy; have := K.x0; omega)
  clear hbk hz ho2 hs2 hss h1
  generalize x / s = a at *
  generalize y / s = c at *
  obtain ⟨k1, k2, k3, k4, k5, k6, k7, k8, k9⟩ := K
  have K : Hid (Bk x y s a c) := ⟨k1, k2, k3, k4, k5, k6, k7, k8, k9⟩
  have s0 : (s == 0) = false := by simp; omega
  have sn : s ≠ 0 := by omega
  have f1 : IntKind.i64.wrap a = a := fits64 (by omega) (by omega)
  have f2 : IntKind.i64.wrap c = c := fits64 (by omega) (by omega)
  have f3 : IntKind.i64.wrap (c - a) = c - a := fits64 (by omega) (by omega)
  have f1' : wrap64 a = a := fitsW (by omega) (by omega)
  have f2' : wrap64 c = c := fitsW (by omega) (by omega)
  have f3' : wrap64 (c - a) = c - a := fitsW (by omega) (by omega)
  clear k1 k2 k3 k4 k5 k8 k9
  by_cases hlim : c - a < 4096
  · have q2 : decide (4096 ≤ c - a) = false := decide_eq_false (by omega)
    replace hP : Hid ((List.range (c - a + 1).toNat).map (fun j : Nat => part (x, y) s (a + (j : Int))) = P) := by
      have := hP.out
      rw [decide_eq_true hlim] at this
      exact this
    replace hlim := Lib.hid hlim
    replace k6 := Lib.hid k6
    replace k7 := Lib.hid k7
    refine wp_region_quiet_below (by kernel_rfl) (by kernel_rfl) ?_
    repeat (first | go_big_quiet_skip | quiet_step ((first | (go_at_call 31; exact K1.out _ _) | (go_at_call 41; exact K2.out _ _))))
    refine wpQuiet_nil ?_
    intro w5 hw5
    have hb := below_of hw5
    clear hw5 K1 K2 g0 g1
    replace b1 := bnext b1 hb
    replace A := A.out.keeps hb
    clear hb
    obtain ⟨a0, a1, g0, g1⟩ := A
    have A : Hid (Bw w5 w.heap.size x y) := ⟨a0, a1, g0, g1⟩
    go_wp2_with fail
    clear a0 a1 g0 g1 f3 q1 q2 f3'
    go_loopw [5, 6] (fun v k wr => ∃ j : Nat, k = .int .i64 (a + (j : Int)) ∧ Own wr (w.heap.size + 1) v ((List.range j).map fun j : Nat => part (x, y) s (a + (j : Int))) ∧ Hid ((j : Int) ≤ c - a + 1) ∧ Below w.heap.size w wr ∧ Bw wr w.heap.size x y) (fun _ k _ => (c + 1 - intOf k).toNat)
    case atStart =>
      exact ⟨0, by simp, Own.nil _ _, Lib.hid (by have := k7.out; omega), b1, A.out⟩
    case round =>
      obtain ⟨j, rfl, O, hj, hb, hw⟩ := hrel
      obtain ⟨a0, a1, g0, g1⟩ := hw
      have hw : Hid (Bw wr w.heap.size x y) := ⟨a0, a1, g0, g1⟩
      by_cases hlt : a + (j : Int) ≤ c
      · have q1 : decide (a + (j : Int) ≤ c) = true := decide_eq_true hlt
        have hm := K.out.mul (k := a + (j : Int)) (by have := k6.out; omega) hlt
        have hs1 := K.out.s1
        have hs0 := K.out.s0
        have hc1 := K.out.c1
        have hpt : Hid (part (x, y) s (a + (j : Int)) = (max x ((a + (j : Int)) * s), min y ((a + (j : Int)) * s + s - 1))) := rfl
        have m1 := max_walk x ((a + (j : Int)) * s)
        have m2 := min_walk y ((a + (j : Int)) * s + s - 1)
        have f1 : wrap64 ((a + (j : Int)) * s) = (a + (j : Int)) * s := fitsW (by omega) (by omega)
        have f2 : wrap64 ((a + (j : Int)) * s + s) = (a + (j : Int)) * s + s := fitsW (by omega) (by omega)
        have f3 : wrap64 ((a + (j : Int)) * s + s - 1) = (a + (j : Int)) * s + s - 1 := fitsW (by omega) (by omega)
        have f4 : wrap64 (a + (j : Int) + 1) = a + (j : Int) + 1 := fitsW (by have := k6.out; omega) (by omega)
        have hlen : ((List.range j).map fun j : Nat => part (x, y) s (a + (j : Int))).length < 8000000000000 := by
          rw [List.length_map, List.length_range]
          have := hlim.out; have := hj.out; omega
        generalize max x ((a + (j : Int)) * s) = p at *
        generalize min y ((a + (j : Int)) * s + s - 1) = q at *
        generalize hu : (a + (j : Int)) * s = u at *
        replace hlt := Lib.hid hlt
        clear hm hs1 hs0 hc1
        have hlen := Lib.hid hlen
        go_wp2_with (at_builtin; refine is_app (.tmp 43) (.tmp 60) rfl ?_; refine wpList_push _ rfl (.tmp 43) (.tmp 60) rfl (w.heap.size + 1) _ _ rfl (O.keeps (balloc (b0 _) _)) wr.heap.size p q rfl (Bw.new wr p q 23) hlen.out (by have := hw.out.lt; simp; omega) ?_; intro v2 w4 O2 b2)
        refine ⟨⟨j + 1, by rw [f4]; push_cast; rw [Int.add_assoc], ?_, Lib.hid (by have := hlt.out; push_cast; omega), (balloc hb _).trans (b2.mono (by omega)), (hw.out.past _).keeps' b2 (by omega)⟩, ?_⟩
        · rw [bs_snoc, hpt.out]
          exact O2
        · simp only [intOf]
          rw [f4]
          have := hlt.out
          omega
      · have q1 : decide (a + (j : Int) ≤ c) = false := decide_eq_false hlt
        have hP2 := hP.out
        rw [show (c - a + 1).toNat = j by have := hj.out; omega] at hP2
        replace hP2 := Lib.hid hP2
        replace hlt := Lib.hid hlt
        go_wp2_with fail
        go_ret
        rw [hP2.out] at O
        exact ⟨_, rfl, O.less (by omega), hb⟩
  · have q2 : decide (4096 ≤ c - a) = true := decide_eq_true (by omega)
    obtain rfl : [] = P := by
      have := hP.out
      rw [decide_eq_false hlim] at this
      exact this
    clear hP hlim k6 k7
    refine wp_region_quiet_below (by kernel_rfl) (by kernel_rfl) ?_
    repeat (first | go_big_quiet_skip | quiet_step ((first | (go_at_call 31; exact K1.out _ _) | (go_at_call 41; exact K2.out _ _))))
    refine wpQuiet_nil ?_
    intro w5 hw5
    have hb := below_of hw5
    clear hw5 K1 K2 g0 g1
    replace b1 := bnext b1 hb
    replace A := A.out.keeps hb
    clear hb
    go_wp2_with fail
    go_ret
    exact ⟨_, rfl, Own.nil _ _, b1⟩
end Go.Proofs.Ytdhdofgdeljajaa

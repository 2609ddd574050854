/-
  The statements' wide and within.
-/
import Derived.Test.YtgfigcjbfigmiaaDoorBase
import Derived.Deep.RegionHeld3
import Derived.Lib.QuietBelow
namespace Go.Proofs.YtgfigcjbfigmiaaDoor
open Go.RowKit Go.Shelf Go.Sort

theorem below_of {w w' : World} (h : ∃ p : Regrown, w' = Sort.grow (redrawn w p.d) p.os) : Below w.heap.size w w' := by
  obtain ⟨p, rfl⟩ := h; exact below_regrown w p.d p.os

theorem compare_at {a b r : Int} (ia : In a) (ib : In b) (h : cmp a b = r) (w : World) :
    Calls Tryd.prog 25 #[.agg #[.int .i64 (hi a), .int .u64 (lo a)], .agg #[.int .i64 (hi b), .int .u64 (lo b)]] w fun e w' => e = .returned (.int .i64 r) ∧ Go.RowKit.Below w.heap.size w w' := by
  have := compare_u ia ib w
  rw [h] at this
  exact this

theorem wide_any (a b c d s : Int) (w : World) (a1 : -9223372036854775808 ≤ a) (a2 : a ≤ 9223372036854775807) (b1 : -9223372036854775808 ≤ b) (b2 : b ≤ 9223372036854775807)
    (c1 : -9223372036854775808 ≤ c) (c2 : c ≤ 9223372036854775807) (d1 : -9223372036854775808 ≤ d) (d2 : d ≤ 9223372036854775807) (hs : Hid (a * b - c * d = s)) :
    Calls Tryd.prog 24 #[.int .i64 a, .int .i64 b, .int .i64 c, .int .i64 d] w fun e w' => e = .returned (.agg #[.int .i64 (hi (s + s)), .int .u64 (lo (s + s))]) ∧ Below w.heap.size w w' := by
  have F := Fresh.new w
  have k0 := balloc (b0 w) (.cells #[.int .i64 0, .int .u64 0] 31)
  go_enter Tryd.func24, Tryd.ntmps24
  go_wp2_with fail
  refine (mul_u a b _ a1 a2 b1 b2).mono ?_
  rintro e w1 ⟨rfl, hb⟩
  replace F := F.keeps hb
  have k1 := bnext k0 hb
  clear hb k0
  go_wp2_with fail
  refine (mul_u c d _ c1 c2 d1 d2).mono ?_
  rintro e w2 ⟨rfl, hb⟩
  replace F := F.keeps hb
  have k2 := bnext k1 hb
  clear hb k1
  go_wp2_with fail
  refine (sub_u (a * b) (c * d) _).mono ?_
  rw [hs.out]
  rintro e w3 ⟨rfl, hb⟩
  replace F := F.keeps hb
  have k3 := bnext k2 hb
  clear hb k2
  have z3 : w.heap.size < w3.heap.size := F.2.2.2.2
  have B := Box.new w3 s
  have F4 := F.keeps (balloc (b0 w3) (.cells #[.int .i64 (hi s), .int .u64 (lo s)] 31))
  have k4 := balloc k3 (.cells #[.int .i64 (hi s), .int .u64 (lo s)] 31)
  have ⟨B0, B1⟩ := B
  go_wp2_with fail
  refine (add_u s s _).mono ?_
  rintro e w5 ⟨rfl, hb⟩
  replace F4 := F4.keeps hb
  have k5 := bnext k4 hb
  clear hb k4 B B0 B1 F
  obtain ⟨f0, f1, f2, f3, f4⟩ := F4
  have P := Fresh.put ⟨f0, f1, f2, f3, f4⟩ (s + s)
  obtain ⟨p0, p1⟩ := P
  go_wp2_with fail
  simp [bodyPost, results, Tryd.results24, go_sem, p0, p1]
  exact store2 k5 (Nat.le_refl _) _ _

set_option maxHeartbeats 1000000 in
theorem within_core (n xh xl yh yl nh nl r1 r2 : Int) (w : World)
    (CO : Hid (∀ w, Calls Tryd.prog 26 #[.int .i64 n] w fun e w' => e = .returned (.agg #[.int .i64 nh, .int .u64 nl]) ∧ Below w.heap.size w w'))
    (CN : Hid (∀ w, Calls Tryd.prog 39 #[.agg #[.int .i64 xh, .int .u64 xl]] w fun e w' => e = .returned (.agg #[.int .i64 yh, .int .u64 yl]) ∧ Below w.heap.size w w'))
    (C1 : Hid (∀ w, Calls Tryd.prog 25 #[.agg #[.int .i64 xh, .int .u64 xl], .agg #[.int .i64 nh, .int .u64 nl]] w fun e w' => e = .returned (.int .i64 r1) ∧ Below w.heap.size w w'))
    (C2 : Hid (∀ w, Calls Tryd.prog 25 #[.agg #[.int .i64 yh, .int .u64 yl], .agg #[.int .i64 nh, .int .u64 nl]] w fun e w' => e = .returned (.int .i64 r2) ∧ Below w.heap.size w w'))
    (e1 : decide (r1 ≤ 0) = true) (e2 : decide (r2 ≤ 0) = true) :
    Calls Tryd.prog 27 #[.agg #[.int .i64 xh, .int .u64 xl], .int .i64 n] w fun e w' => e = .returned (.bool true) ∧ Below w.heap.size w w' := by
  have k0 := balloc (b0 w) (.cells #[.int .i64 xh, .int .u64 xl] 31)
  go_enter Tryd.func27, Tryd.ntmps27
  go_wp2_with fail
  have B0 := fun d os => cell_regrown (w := w.alloc (.cells #[.int .i64 xh, .int .u64 xl] 31)) (a := ⟨w.heap.size, 0, none⟩) (v := .int .i64 xh) (by simp [go_sem]) d os
  have B1 := fun d os => cell_regrown (w := w.alloc (.cells #[.int .i64 xh, .int .u64 xl] 31)) (a := ⟨w.heap.size, 1, none⟩) (v := .int .u64 xl) (by simp [go_sem]) d os
  refine wp_region_quiet_below (by kernel_rfl) (by kernel_rfl) ?_
  iterate 10 (quiet_step ((first | (go_at_call 26; exact Calls.regrown_of (CO.out _)) | (go_at_call 39; exact Calls.regrown_of (CN.out _)) | (go_at_call 25; exact Calls.regrown_of (C1.out _)))))
  repeat (quiet_step ((first | (go_at_call 26; exact Calls.regrown_of (CO.out _)) | (go_at_call 39; exact Calls.regrown_of (CN.out _)) | (go_at_call 25; exact Calls.regrown_of (C2.out _)))))
  refine wpQuiet_nil ?_
  intro w1 hw1
  have hb := below_of hw1
  have k1 := bnext k0 hb
  go_wp2
  go_ret
  exact ⟨rfl, k1⟩

theorem within_yes (x n : Int) (w : World) (ix : In x) (inx : In (-x)) (n1 : -9223372036854775808 ≤ n) (n2 : n ≤ 9223372036854775807) (h1 : x ≤ n) (h2 : -x ≤ n) :
    Calls Tryd.prog 27 #[.agg #[.int .i64 (hi x), .int .u64 (lo x)], .int .i64 n] w fun e w' => e = .returned (.bool true) ∧ Below w.heap.size w w' := by
  have i1 : In n := by unfold In; omega
  have e1 : decide (cmp x n ≤ 0) = true := by rw [decide_eq_true_eq]; have := cmp_cases x n; omega
  have e2 : decide (cmp (-x) n ≤ 0) = true := by rw [decide_eq_true_eq]; have := cmp_cases (-x) n; omega
  exact within_core n (hi x) (lo x) (hi (-x)) (lo (-x)) (hi n) (lo n) (cmp x n) (cmp (-x) n) w (fun w => of_u n w n1 n2) (fun w => neg_u x w) (fun w => compare_u ix i1 w) (fun w => compare_u inx i1 w) e1 e2
end Go.Proofs.YtgfigcjbfigmiaaDoor

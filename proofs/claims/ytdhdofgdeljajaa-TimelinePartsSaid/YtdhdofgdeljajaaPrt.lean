/-
  The walk of TimelineParts.
-/
import Derived.Test.YtdhdofgdeljajaaExa
namespace Go.Proofs.Ytdhdofgdeljajaa
open Go.RowKit

set_option maxRecDepth 100000 in
set_option maxHeartbeats 1000000 in
theorem walk_parts (x y s : Int) (w : World) : Calls Try.prog 6 #[.agg #[.int .i64 x, .int .i64 y], .int .i64 s] w fun e w' => e = .returned (.bool true) ∧ Below w.heap.size w w' := by
  have C1 := Lib.hid (buckets_any x y s)
  have C2 := Lib.hid (rbuckets_any x y s)
  have C3 := Lib.hid example_any
  generalize buk (x, y) s = P at *
  have A := Lib.hid (Bw.new w x y 23)
  have b1 := Lib.hid (balloc (b0 w) (.cells #[.int .i64 x, .int .i64 y] 23))
  go_enter Try.func6, Try.ntmps6
  go_wp2_with fail
  generalize w.alloc (.cells #[.int .i64 x, .int .i64 y] 23) = W at *
  refine wp_region_noPanic ?_
  refine wp_region_held_drew (S := fun w' => Below W.heap.size W w') (by kernel_rfl) (b0 _).drew (fun hH => ?_)
  refine held_only (i := 0) rfl (by kernel_rfl) rfl (fun K hK => ?_)
  go_simp
  refine (C3.out _).mono ?_
  rintro e w2 ⟨rfl, d⟩
  refine hK.out _ _ (bnext hH d) (fun hH => ?_)
  clear hK K
  refine held_take (i := 1) (d := 6) (v := ?_) rfl (by kernel_rfl) (by kernel_rfl) (by kernel_rfl) rfl (fun _ _ _ h => h) rfl hH (fun w' hS => ?_) ?_
  rotate_left
  · go_simp; first | done | with_reducible rfl
  simp only [List.set_cons_zero, List.set_cons_succ]
  refine held_take (i := 2) (d := 7) (v := ?_) rfl (by kernel_rfl) (by kernel_rfl) (by kernel_rfl) rfl (fun _ _ _ h => h) rfl hH (fun w' hS => ?_) ?_
  rotate_left
  · obtain ⟨k0, k1, _, _⟩ := A.out.keeps hS; clear hS; go_simp; first | done | with_reducible rfl
  simp only [List.set_cons_zero, List.set_cons_succ]
  refine held_take (i := 3) (d := 8) (v := ?_) rfl (by kernel_rfl) (by kernel_rfl) (by kernel_rfl) rfl (fun _ _ _ h => h) rfl hH (fun w' hS => ?_) ?_
  rotate_left
  · go_simp; first | done | with_reducible rfl
  simp only [List.set_cons_zero, List.set_cons_succ]
  refine held_take (i := 5) (d := 10) (v := ?_) rfl (by kernel_rfl) (by kernel_rfl) (by kernel_rfl) rfl (fun _ _ _ h => h) rfl hH (fun w' hS => ?_) ?_
  rotate_left
  · obtain ⟨k0, k1, _, _⟩ := A.out.keeps hS; clear hS; go_simp; first | done | with_reducible rfl
  simp only [List.set_cons_zero, List.set_cons_succ]
  refine held_take (i := 6) (d := 11) (v := ?_) rfl (by kernel_rfl) (by kernel_rfl) (by kernel_rfl) rfl (fun _ _ _ h => h) rfl hH (fun w' hS => ?_) ?_
  rotate_left
  · go_simp; first | done | with_reducible rfl
  simp only [List.set_cons_zero, List.set_cons_succ]
  refine held_only (i := 4) rfl (by kernel_rfl) rfl (fun K hK => ?_)
  go_simp
  refine (C1.out _).mono ?_
  rintro e w3 ⟨v1, rfl, O1, d⟩
  refine hK.out _ _ (bnext hH d) (fun hH => ?_)
  clear hK K
  clear d
  replace O1 := O1.less (Nat.zero_le _)
  refine held_and (fun w' => Own w' 0 v1 P) O1 hH (fun hH => ?_)
  clear O1
  refine held_only (i := 7) rfl (by kernel_rfl) rfl (fun K hK => ?_)
  go_simp
  refine (C2.out _).mono ?_
  rintro e w4 ⟨v2, rfl, O2, d⟩
  refine hK.out _ _ ⟨bnext hH.1 d, hH.2.keeps d⟩ (fun hH => ?_)
  clear hK K
  clear d
  obtain ⟨a1, p1, rfl, L1⟩ := hH.2.sl
  obtain ⟨a2, p2, rfl, L2⟩ := O2.sl
  refine held_only (i := 8) rfl (by kernel_rfl) rfl (fun K hK => ?_)
  go_simp
  refine (same_any a1 p1 a2 p2 _ P _ L1 L2).mono ?_
  rintro e w5 ⟨rfl, d⟩
  refine hK.out _ _ ⟨bnext hH.1 d, hH.2.keeps d⟩ (fun hH => ?_)
  clear hK K
  refine held_take (i := 9) (d := 14) (v := ?_) rfl (by kernel_rfl) (by kernel_rfl) (by kernel_rfl) rfl (fun _ _ _ h => h) rfl hH (fun w' hS => ?_) ?_
  rotate_left
  · go_simp; first | done | with_reducible rfl
  simp only [List.set_cons_zero, List.set_cons_succ]
  refine held_take (i := 10) (d := 4) (v := ?_) rfl (by kernel_rfl) (by kernel_rfl) (by kernel_rfl) rfl (fun _ _ _ h => h) rfl hH (fun w' hS => ?_) ?_
  rotate_left
  · go_simp; first | done | with_reducible rfl
  simp only [List.set_cons_zero, List.set_cons_succ]
  refine wpAnyH_done (by kernel_rfl) ?_ _
  refine noPanic_of ?_
  replace b1 := Lib.hid (bnext b1.out hH.1)
  clear hH L1 L2 O2 A C1 C2 C3
  go_wp2_with fail
  go_ret
  exact ⟨rfl, b1.out⟩
end Go.Proofs.Ytdhdofgdeljajaa

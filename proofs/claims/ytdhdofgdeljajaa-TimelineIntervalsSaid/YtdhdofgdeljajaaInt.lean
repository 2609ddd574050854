/-
  The walk of TimelineIntervals.
-/
import Derived.Test.YtdhdofgdeljajaaRuni
import Derived.Test.YtdhdofgdeljajaaSm3
import Derived.Test.YtdhdofgdeljajaaExa
namespace Go.Proofs.Ytdhdofgdeljajaa
open Go.RowKit

set_option maxRecDepth 100000 in
set_option maxHeartbeats 2000000 in
theorem walk_intervals (x y u v : Int) (a : Option Addr) (n0 cap : Nat) (l : List I2) (w : World) (hS : Sl w a n0 cap l) : Calls Try.prog 3 #[.agg #[.int .i64 x, .int .i64 y], .agg #[.int .i64 u, .int .i64 v], .slice a n0 cap] w fun e w' => e = .returned (.bool true) ∧ Below w.heap.size w w' := by
  have FC := Lib.hid (fun w => few_any a n0 cap w hS.hcap hS.hmax)
  have hN := fewN_le n0
  have X1 := hS.few (fewN n0) hN.2
  generalize fewN n0 = n at *
  generalize l.take n = X at *
  have hXn := X1.hn
  have UC := Lib.hid (fun w1 h1 => union_any a n cap X w1 h1 (by omega))
  have RC := Lib.hid (fun w1 h1 => runion_any a n cap X w1 h1 (by omega))
  have MC := Lib.hid (meet_any x y u v)
  have RM := Lib.hid (rmeet_any x y u v)
  have KA := check_any x y
  have RA := rcheck_any x y
  have KB := check_any u v
  have RB := rcheck_any u v
  generalize (if okI (x, y) then (0 : Int) else 1) = ca at *
  generalize (if okI (u, v) then (0 : Int) else 1) = cb at *
  replace KA := Lib.hid KA
  replace RA := Lib.hid RA
  replace KB := Lib.hid KB
  replace RB := Lib.hid RB
  have C3 := Lib.hid example_any
  generalize mtv (x, y) (u, v) = P at *
  generalize mtb (x, y) (u, v) = o at *
  obtain ⟨p, q⟩ := P
  simp only at MC RM
  have A := Lib.hid ((Bw.new w x y 23).past (.cells #[.int .i64 u, .int .i64 v] 23))
  have B := Bw.new (w.alloc (.cells #[.int .i64 x, .int .i64 y] 23)) u v 23
  rw [alloc_size] at B
  replace B := Lib.hid B
  have b1 := Lib.hid (balloc (balloc (b0 w) (.cells #[.int .i64 x, .int .i64 y] 23)) (.cells #[.int .i64 u, .int .i64 v] 23))
  replace X1 := Lib.hid (X1.keeps (balloc (balloc (b0 w) (.cells #[.int .i64 x, .int .i64 y] 23)) (.cells #[.int .i64 u, .int .i64 v] 23)))
  clear hS hN hXn
  go_enter Try.func3, Try.ntmps3
  go_wp2_with fail
  generalize (w.alloc (.cells #[.int .i64 x, .int .i64 y] 23)).alloc (.cells #[.int .i64 u, .int .i64 v] 23) = w0 at *
  refine (MC.out _).mono ?_
  rintro e w1 ⟨rfl, d⟩
  replace A := Lib.hid (A.out.keeps d)
  replace B := Lib.hid (B.out.keeps d)
  replace X1 := Lib.hid (X1.out.keeps d)
  replace b1 := Lib.hid (bnext b1.out d)
  have I := Lib.hid (Bw.new w1 p q 23)
  have A1 := Lib.hid (A.out.past (.cells #[.int .i64 p, .int .i64 q] 23))
  have B1 := Lib.hid (B.out.past (.cells #[.int .i64 p, .int .i64 q] 23))
  obtain ⟨a0, a1, _, _⟩ := A1.out
  obtain ⟨c0, c1, _, _⟩ := B1.out
  clear d MC
  go_wp2_with fail
  refine (RM.out _).mono ?_
  rintro e w2 ⟨rfl, d⟩
  replace A := Lib.hid (A1.out.keeps d)
  replace B := Lib.hid (B1.out.keeps d)
  replace X1 := Lib.hid (X1.out.keeps (step_alloc d))
  replace b1 := Lib.hid (bnext b1.out (step_alloc d))
  replace I := Lib.hid (I.out.keeps d)
  clear d a0 a1 c0 c1 RM A1 B1
  generalize w1.heap.size = r7 at *
  have J := Lib.hid (Bw.new w2 p q 23)
  replace A := Lib.hid (A.out.past (.cells #[.int .i64 p, .int .i64 q] 23))
  replace B := Lib.hid (B.out.past (.cells #[.int .i64 p, .int .i64 q] 23))
  replace I := Lib.hid (I.out.past (.cells #[.int .i64 p, .int .i64 q] 23))
  replace X1 := Lib.hid (X1.out.keeps (balloc (b0 w2) (.cells #[.int .i64 p, .int .i64 q] 23)))
  replace b1 := Lib.hid (balloc b1.out (.cells #[.int .i64 p, .int .i64 q] 23))
  go_wp2_with fail
  generalize w2.heap.size = r9 at *
  generalize w2.alloc (.cells #[.int .i64 p, .int .i64 q] 23) = W at *
  refine (FC.out _).mono ?_
  rintro e W' ⟨rfl, rfl⟩
  clear FC
  go_wp2_with fail
  cases o
  · refine wp_region_noPanic ?_
    refine wp_region_held_drew (S := fun w' => Below W.heap.size W w') (by kernel_rfl) (b0 _).drew (fun hH => ?_)
    refine held_only (i := 0) rfl (by kernel_rfl) rfl (fun K hK => ?_)
    go_simp
    refine (C3.out _).mono ?_
    rintro e w3 ⟨rfl, d⟩
    refine hK.out _ _ (bnext hH d) (fun hH => ?_)
    clear hK K
    clear d
    refine held_take (i := 1) (d := 27) (v := ?_) rfl (by kernel_rfl) (by kernel_rfl) (by kernel_rfl) rfl (fun _ _ _ h => h) rfl hH (fun w' hS => ?_) ?_
    rotate_left
    · clear hS; go_simp; first | done | with_reducible rfl
    simp only [List.set_cons_zero, List.set_cons_succ]
    refine held_take (i := 2) (d := 28) (v := ?_) rfl (by kernel_rfl) (by kernel_rfl) (by kernel_rfl) rfl (fun _ _ _ h => h) rfl hH (fun w' hS => ?_) ?_
    rotate_left
    · obtain ⟨k0, k1, _, _⟩ := I.out.keeps hS; clear hS; go_simp; first | done | with_reducible rfl
    simp only [List.set_cons_zero, List.set_cons_succ]
    refine held_take (i := 3) (d := 29) (v := ?_) rfl (by kernel_rfl) (by kernel_rfl) (by kernel_rfl) rfl (fun _ _ _ h => h) rfl hH (fun w' hS => ?_) ?_
    rotate_left
    · obtain ⟨k0, k1, _, _⟩ := J.out.keeps hS; clear hS; go_simp; first | done | with_reducible rfl
    simp only [List.set_cons_zero, List.set_cons_succ]
    refine held_take (i := 4) (d := 30) (v := ?_) rfl (by kernel_rfl) (by kernel_rfl) (by kernel_rfl) rfl (fun _ _ _ h => h) rfl hH (fun w' hS => ?_) ?_
    rotate_left
    · clear hS; go_simp; first | done | with_reducible rfl
    simp only [List.set_cons_zero, List.set_cons_succ]
    refine held_take (i := 5) (d := 31) (v := ?_) rfl (by kernel_rfl) (by kernel_rfl) (by kernel_rfl) rfl (fun _ _ _ h => h) rfl hH (fun w' hS => ?_) ?_
    rotate_left
    · clear hS; go_simp; first | done | with_reducible rfl
    simp only [List.set_cons_zero, List.set_cons_succ]
    refine held_take (i := 6) (d := 32) (v := ?_) rfl (by kernel_rfl) (by kernel_rfl) (by kernel_rfl) rfl (fun _ _ _ h => h) rfl hH (fun w' hS => ?_) ?_
    rotate_left
    · clear hS; go_simp; first | done | with_reducible rfl
    simp only [List.set_cons_zero, List.set_cons_succ]
    refine held_take (i := 7) (d := 33) (v := ?_) rfl (by kernel_rfl) (by kernel_rfl) (by kernel_rfl) rfl (fun _ _ _ h => h) rfl hH (fun w' hS => ?_) ?_
    rotate_left
    · clear hS; go_simp; first | done | with_reducible rfl
    simp only [List.set_cons_zero, List.set_cons_succ]
    refine held_take (i := 8) (d := 34) (v := ?_) rfl (by kernel_rfl) (by kernel_rfl) (by kernel_rfl) rfl (fun _ _ _ h => h) rfl hH (fun w' hS => ?_) ?_
    rotate_left
    · clear hS; go_simp; first | done | with_reducible rfl
    simp only [List.set_cons_zero, List.set_cons_succ]
    refine held_take (i := 9) (d := 35) (v := ?_) rfl (by kernel_rfl) (by kernel_rfl) (by kernel_rfl) rfl (fun _ _ _ h => h) rfl hH (fun w' hS => ?_) ?_
    rotate_left
    · clear hS; go_simp; first | done | with_reducible rfl
    simp only [List.set_cons_zero, List.set_cons_succ]
    refine held_take (i := 10) (d := 36) (v := ?_) rfl (by kernel_rfl) (by kernel_rfl) (by kernel_rfl) rfl (fun _ _ _ h => h) rfl hH (fun w' hS => ?_) ?_
    rotate_left
    · clear hS; go_simp; first | done | with_reducible rfl
    simp only [List.set_cons_zero, List.set_cons_succ]
    refine held_take (i := 11) (d := 37) (v := ?_) rfl (by kernel_rfl) (by kernel_rfl) (by kernel_rfl) rfl (fun _ _ _ h => h) rfl hH (fun w' hS => ?_) ?_
    rotate_left
    · clear hS; go_simp; first | done | with_reducible rfl
    simp only [List.set_cons_zero, List.set_cons_succ]
    refine held_take (i := 12) (d := 38) (v := ?_) rfl (by kernel_rfl) (by kernel_rfl) (by kernel_rfl) rfl (fun _ _ _ h => h) rfl hH (fun w' hS => ?_) ?_
    rotate_left
    · obtain ⟨k0, k1, _, _⟩ := A.out.keeps hS; clear hS; go_simp; first | done | with_reducible rfl
    simp only [List.set_cons_zero, List.set_cons_succ]
    refine held_take (i := 14) (d := 40) (v := ?_) rfl (by kernel_rfl) (by kernel_rfl) (by kernel_rfl) rfl (fun _ _ _ h => h) rfl hH (fun w' hS => ?_) ?_
    rotate_left
    · obtain ⟨k0, k1, _, _⟩ := A.out.keeps hS; clear hS; go_simp; first | done | with_reducible rfl
    simp only [List.set_cons_zero, List.set_cons_succ]
    refine held_only (i := 13) rfl (by kernel_rfl) rfl (fun K hK => ?_)
    go_simp
    refine (KA.out _).mono ?_
    rintro e w4 ⟨rfl, d⟩
    refine hK.out _ _ (bnext hH d) (fun hH => ?_)
    clear hK K
    clear d
    refine held_only (i := 15) rfl (by kernel_rfl) rfl (fun K hK => ?_)
    go_simp
    refine (RA.out _).mono ?_
    rintro e w5 ⟨rfl, d⟩
    refine hK.out _ _ (bnext hH d) (fun hH => ?_)
    clear hK K
    clear d
    refine held_take (i := 16) (d := 42) (v := ?_) rfl (by kernel_rfl) (by kernel_rfl) (by kernel_rfl) rfl (fun _ _ _ h => h) rfl hH (fun w' hS => ?_) ?_
    rotate_left
    · clear hS; go_simp; first | done | with_reducible rfl
    simp only [List.set_cons_zero, List.set_cons_succ]
    refine held_take (i := 17) (d := 43) (v := ?_) rfl (by kernel_rfl) (by kernel_rfl) (by kernel_rfl) rfl (fun _ _ _ h => h) rfl hH (fun w' hS => ?_) ?_
    rotate_left
    · clear hS; go_simp; first | done | with_reducible rfl
    simp only [List.set_cons_zero, List.set_cons_succ]
    refine held_take (i := 18) (d := 44) (v := ?_) rfl (by kernel_rfl) (by kernel_rfl) (by kernel_rfl) rfl (fun _ _ _ h => h) rfl hH (fun w' hS => ?_) ?_
    rotate_left
    · clear hS; go_simp; first | done | with_reducible rfl
    simp only [List.set_cons_zero, List.set_cons_succ]
    refine held_take (i := 19) (d := 45) (v := ?_) rfl (by kernel_rfl) (by kernel_rfl) (by kernel_rfl) rfl (fun _ _ _ h => h) rfl hH (fun w' hS => ?_) ?_
    rotate_left
    · obtain ⟨k0, k1, _, _⟩ := B.out.keeps hS; clear hS; go_simp; first | done | with_reducible rfl
    simp only [List.set_cons_zero, List.set_cons_succ]
    refine held_take (i := 21) (d := 47) (v := ?_) rfl (by kernel_rfl) (by kernel_rfl) (by kernel_rfl) rfl (fun _ _ _ h => h) rfl hH (fun w' hS => ?_) ?_
    rotate_left
    · obtain ⟨k0, k1, _, _⟩ := B.out.keeps hS; clear hS; go_simp; first | done | with_reducible rfl
    simp only [List.set_cons_zero, List.set_cons_succ]
    refine held_only (i := 20) rfl (by kernel_rfl) rfl (fun K hK => ?_)
    go_simp
    refine (KB.out _).mono ?_
    rintro e w6 ⟨rfl, d⟩
    refine hK.out _ _ (bnext hH d) (fun hH => ?_)
    clear hK K
    clear d
    refine held_only (i := 22) rfl (by kernel_rfl) rfl (fun K hK => ?_)
    go_simp
    refine (RB.out _).mono ?_
    rintro e w7 ⟨rfl, d⟩
    refine hK.out _ _ (bnext hH d) (fun hH => ?_)
    clear hK K
    clear d
    refine held_take (i := 23) (d := 49) (v := ?_) rfl (by kernel_rfl) (by kernel_rfl) (by kernel_rfl) rfl (fun _ _ _ h => h) rfl hH (fun w' hS => ?_) ?_
    rotate_left
    · clear hS; go_simp; first | done | with_reducible rfl
    simp only [List.set_cons_zero, List.set_cons_succ]
    refine held_take (i := 24) (d := 50) (v := ?_) rfl (by kernel_rfl) (by kernel_rfl) (by kernel_rfl) rfl (fun _ _ _ h => h) rfl hH (fun w' hS => ?_) ?_
    rotate_left
    · clear hS; go_simp; first | done | with_reducible rfl
    simp only [List.set_cons_zero, List.set_cons_succ]
    refine held_take (i := 25) (d := 51) (v := ?_) rfl (by kernel_rfl) (by kernel_rfl) (by kernel_rfl) rfl (fun _ _ _ h => h) rfl hH (fun w' hS => ?_) ?_
    rotate_left
    · clear hS; go_simp; first | done | with_reducible rfl
    simp only [List.set_cons_zero, List.set_cons_succ]
    refine held_take (i := 26) (d := 52) (v := ?_) rfl (by kernel_rfl) (by kernel_rfl) (by kernel_rfl) rfl (fun _ _ _ h => h) rfl hH (fun w' hS => ?_) ?_
    rotate_left
    · clear hS; go_simp; first | done | with_reducible rfl
    simp only [List.set_cons_zero, List.set_cons_succ]
    refine held_take (i := 28) (d := 54) (v := ?_) rfl (by kernel_rfl) (by kernel_rfl) (by kernel_rfl) rfl (fun _ _ _ h => h) rfl hH (fun w' hS => ?_) ?_
    rotate_left
    · clear hS; go_simp; first | done | with_reducible rfl
    simp only [List.set_cons_zero, List.set_cons_succ]
    refine held_only (i := 27) rfl (by kernel_rfl) rfl (fun K hK => ?_)
    go_simp
    refine (UC.out _ (X1.out.keeps hH)).mono ?_
    rintro e w8 ⟨v1, U, rfl, hU, _, O1, d⟩
    refine hK.out _ _ (bnext hH d) (fun hH => ?_)
    clear hK K
    clear d
    replace O1 := O1.less (Nat.zero_le _)
    refine held_and (fun w' => Own w' 0 v1 U) O1 hH (fun hH => ?_)
    clear O1
    refine held_only (i := 29) rfl (by kernel_rfl) rfl (fun K hK => ?_)
    go_simp
    refine (RC.out _ (X1.out.keeps hH.1)).mono ?_
    rintro e w9 ⟨v2, V, rfl, hV, O2, d⟩
    obtain rfl := hV.eq hU
    refine hK.out _ _ ⟨bnext hH.1 d, hH.2.keeps d⟩ (fun hH => ?_)
    clear hK K
    clear d
    obtain ⟨a1, p1, rfl, L1⟩ := hH.2.sl
    obtain ⟨a2, p2, rfl, L2⟩ := O2.sl
    refine held_only (i := 30) rfl (by kernel_rfl) rfl (fun K hK => ?_)
    go_simp
    refine (same_any a1 p1 a2 p2 _ _ _ L1 L2).mono ?_
    rintro e w10 ⟨rfl, d⟩
    refine hK.out _ _ ⟨bnext hH.1 d, hH.2.keeps d⟩ (fun hH => ?_)
    clear hK K
    refine held_take (i := 31) (d := 57) (v := ?_) rfl (by kernel_rfl) (by kernel_rfl) (by kernel_rfl) rfl (fun _ _ _ h => h) rfl hH (fun w' hS => ?_) ?_
    rotate_left
    · clear hS; go_simp; first | done | with_reducible rfl
    simp only [List.set_cons_zero, List.set_cons_succ]
    refine held_take (i := 32) (d := 6) (v := ?_) rfl (by kernel_rfl) (by kernel_rfl) (by kernel_rfl) rfl (fun _ _ _ h => h) rfl hH (fun w' hS => ?_) ?_
    rotate_left
    · clear hS; go_simp; first | done | with_reducible rfl
    simp only [List.set_cons_zero, List.set_cons_succ]
    refine wpAnyH_done (by kernel_rfl) ?_ _
    refine noPanic_of ?_
    replace b1 := Lib.hid (bnext b1.out hH.1)
    clear hH L1 L2 O2 A B I J UC RC KA RA KB RB C3
    go_wp2_with fail
    go_ret
    exact ⟨rfl, b1.out⟩
  · refine wp_region_noPanic ?_
    refine wp_region_held_drew (S := fun w' => Below W.heap.size W w') (by kernel_rfl) (b0 _).drew (fun hH => ?_)
    refine held_only (i := 0) rfl (by kernel_rfl) rfl (fun K hK => ?_)
    go_simp
    refine (C3.out _).mono ?_
    rintro e w3 ⟨rfl, d⟩
    refine hK.out _ _ (bnext hH d) (fun hH => ?_)
    clear hK K
    clear d
    refine held_take (i := 1) (d := 27) (v := ?_) rfl (by kernel_rfl) (by kernel_rfl) (by kernel_rfl) rfl (fun _ _ _ h => h) rfl hH (fun w' hS => ?_) ?_
    rotate_left
    · clear hS; go_simp; first | done | with_reducible rfl
    simp only [List.set_cons_zero, List.set_cons_succ]
    refine held_take (i := 2) (d := 28) (v := ?_) rfl (by kernel_rfl) (by kernel_rfl) (by kernel_rfl) rfl (fun _ _ _ h => h) rfl hH (fun w' hS => ?_) ?_
    rotate_left
    · obtain ⟨k0, k1, _, _⟩ := I.out.keeps hS; clear hS; go_simp; first | done | with_reducible rfl
    simp only [List.set_cons_zero, List.set_cons_succ]
    refine held_take (i := 3) (d := 29) (v := ?_) rfl (by kernel_rfl) (by kernel_rfl) (by kernel_rfl) rfl (fun _ _ _ h => h) rfl hH (fun w' hS => ?_) ?_
    rotate_left
    · obtain ⟨k0, k1, _, _⟩ := J.out.keeps hS; clear hS; go_simp; first | done | with_reducible rfl
    simp only [List.set_cons_zero, List.set_cons_succ]
    refine held_take (i := 4) (d := 30) (v := ?_) rfl (by kernel_rfl) (by kernel_rfl) (by kernel_rfl) rfl (fun _ _ _ h => h) rfl hH (fun w' hS => ?_) ?_
    rotate_left
    · clear hS; go_simp; first | done | with_reducible rfl
    simp only [List.set_cons_zero, List.set_cons_succ]
    refine held_take (i := 5) (d := 31) (v := ?_) rfl (by kernel_rfl) (by kernel_rfl) (by kernel_rfl) rfl (fun _ _ _ h => h) rfl hH (fun w' hS => ?_) ?_
    rotate_left
    · clear hS; go_simp; first | done | with_reducible rfl
    simp only [List.set_cons_zero, List.set_cons_succ]
    refine held_take (i := 6) (d := 32) (v := ?_) rfl (by kernel_rfl) (by kernel_rfl) (by kernel_rfl) rfl (fun _ _ _ h => h) rfl hH (fun w' hS => ?_) ?_
    rotate_left
    · clear hS; go_simp; first | done | with_reducible rfl
    simp only [List.set_cons_zero, List.set_cons_succ]
    refine held_take (i := 7) (d := 33) (v := ?_) rfl (by kernel_rfl) (by kernel_rfl) (by kernel_rfl) rfl (fun _ _ _ h => h) rfl hH (fun w' hS => ?_) ?_
    rotate_left
    · clear hS; go_simp; first | done | with_reducible rfl
    simp only [List.set_cons_zero, List.set_cons_succ]
    refine held_take (i := 8) (d := 34) (v := ?_) rfl (by kernel_rfl) (by kernel_rfl) (by kernel_rfl) rfl (fun _ _ _ h => h) rfl hH (fun w' hS => ?_) ?_
    rotate_left
    · clear hS; go_simp; first | done | with_reducible rfl
    simp only [List.set_cons_zero, List.set_cons_succ]
    refine held_take (i := 9) (d := 35) (v := ?_) rfl (by kernel_rfl) (by kernel_rfl) (by kernel_rfl) rfl (fun _ _ _ h => h) rfl hH (fun w' hS => ?_) ?_
    rotate_left
    · clear hS; go_simp; first | done | with_reducible rfl
    simp only [List.set_cons_zero, List.set_cons_succ]
    refine held_take (i := 10) (d := 36) (v := ?_) rfl (by kernel_rfl) (by kernel_rfl) (by kernel_rfl) rfl (fun _ _ _ h => h) rfl hH (fun w' hS => ?_) ?_
    rotate_left
    · clear hS; go_simp; first | done | with_reducible rfl
    simp only [List.set_cons_zero, List.set_cons_succ]
    refine held_take (i := 11) (d := 37) (v := ?_) rfl (by kernel_rfl) (by kernel_rfl) (by kernel_rfl) rfl (fun _ _ _ h => h) rfl hH (fun w' hS => ?_) ?_
    rotate_left
    · clear hS; go_simp; first | done | with_reducible rfl
    simp only [List.set_cons_zero, List.set_cons_succ]
    refine held_take (i := 12) (d := 38) (v := ?_) rfl (by kernel_rfl) (by kernel_rfl) (by kernel_rfl) rfl (fun _ _ _ h => h) rfl hH (fun w' hS => ?_) ?_
    rotate_left
    · obtain ⟨k0, k1, _, _⟩ := A.out.keeps hS; clear hS; go_simp; first | done | with_reducible rfl
    simp only [List.set_cons_zero, List.set_cons_succ]
    refine held_take (i := 14) (d := 40) (v := ?_) rfl (by kernel_rfl) (by kernel_rfl) (by kernel_rfl) rfl (fun _ _ _ h => h) rfl hH (fun w' hS => ?_) ?_
    rotate_left
    · obtain ⟨k0, k1, _, _⟩ := A.out.keeps hS; clear hS; go_simp; first | done | with_reducible rfl
    simp only [List.set_cons_zero, List.set_cons_succ]
    refine held_only (i := 13) rfl (by kernel_rfl) rfl (fun K hK => ?_)
    go_simp
    refine (KA.out _).mono ?_
    rintro e w4 ⟨rfl, d⟩
    refine hK.out _ _ (bnext hH d) (fun hH => ?_)
    clear hK K
    clear d
    refine held_only (i := 15) rfl (by kernel_rfl) rfl (fun K hK => ?_)
    go_simp
    refine (RA.out _).mono ?_
    rintro e w5 ⟨rfl, d⟩
    refine hK.out _ _ (bnext hH d) (fun hH => ?_)
    clear hK K
    clear d
    refine held_take (i := 16) (d := 42) (v := ?_) rfl (by kernel_rfl) (by kernel_rfl) (by kernel_rfl) rfl (fun _ _ _ h => h) rfl hH (fun w' hS => ?_) ?_
    rotate_left
    · clear hS; go_simp; first | done | with_reducible rfl
    simp only [List.set_cons_zero, List.set_cons_succ]
    refine held_take (i := 17) (d := 43) (v := ?_) rfl (by kernel_rfl) (by kernel_rfl) (by kernel_rfl) rfl (fun _ _ _ h => h) rfl hH (fun w' hS => ?_) ?_
    rotate_left
    · clear hS; go_simp; first | done | with_reducible rfl
    simp only [List.set_cons_zero, List.set_cons_succ]
    refine held_take (i := 18) (d := 44) (v := ?_) rfl (by kernel_rfl) (by kernel_rfl) (by kernel_rfl) rfl (fun _ _ _ h => h) rfl hH (fun w' hS => ?_) ?_
    rotate_left
    · clear hS; go_simp; first | done | with_reducible rfl
    simp only [List.set_cons_zero, List.set_cons_succ]
    refine held_take (i := 19) (d := 45) (v := ?_) rfl (by kernel_rfl) (by kernel_rfl) (by kernel_rfl) rfl (fun _ _ _ h => h) rfl hH (fun w' hS => ?_) ?_
    rotate_left
    · obtain ⟨k0, k1, _, _⟩ := B.out.keeps hS; clear hS; go_simp; first | done | with_reducible rfl
    simp only [List.set_cons_zero, List.set_cons_succ]
    refine held_take (i := 21) (d := 47) (v := ?_) rfl (by kernel_rfl) (by kernel_rfl) (by kernel_rfl) rfl (fun _ _ _ h => h) rfl hH (fun w' hS => ?_) ?_
    rotate_left
    · obtain ⟨k0, k1, _, _⟩ := B.out.keeps hS; clear hS; go_simp; first | done | with_reducible rfl
    simp only [List.set_cons_zero, List.set_cons_succ]
    refine held_only (i := 20) rfl (by kernel_rfl) rfl (fun K hK => ?_)
    go_simp
    refine (KB.out _).mono ?_
    rintro e w6 ⟨rfl, d⟩
    refine hK.out _ _ (bnext hH d) (fun hH => ?_)
    clear hK K
    clear d
    refine held_only (i := 22) rfl (by kernel_rfl) rfl (fun K hK => ?_)
    go_simp
    refine (RB.out _).mono ?_
    rintro e w7 ⟨rfl, d⟩
    refine hK.out _ _ (bnext hH d) (fun hH => ?_)
    clear hK K
    clear d
    refine held_take (i := 23) (d := 49) (v := ?_) rfl (by kernel_rfl) (by kernel_rfl) (by kernel_rfl) rfl (fun _ _ _ h => h) rfl hH (fun w' hS => ?_) ?_
    rotate_left
    · clear hS; go_simp; first | done | with_reducible rfl
    simp only [List.set_cons_zero, List.set_cons_succ]
    refine held_take (i := 24) (d := 50) (v := ?_) rfl (by kernel_rfl) (by kernel_rfl) (by kernel_rfl) rfl (fun _ _ _ h => h) rfl hH (fun w' hS => ?_) ?_
    rotate_left
    · clear hS; go_simp; first | done | with_reducible rfl
    simp only [List.set_cons_zero, List.set_cons_succ]
    refine held_take (i := 25) (d := 51) (v := ?_) rfl (by kernel_rfl) (by kernel_rfl) (by kernel_rfl) rfl (fun _ _ _ h => h) rfl hH (fun w' hS => ?_) ?_
    rotate_left
    · clear hS; go_simp; first | done | with_reducible rfl
    simp only [List.set_cons_zero, List.set_cons_succ]
    refine held_take (i := 26) (d := 52) (v := ?_) rfl (by kernel_rfl) (by kernel_rfl) (by kernel_rfl) rfl (fun _ _ _ h => h) rfl hH (fun w' hS => ?_) ?_
    rotate_left
    · clear hS; go_simp; first | done | with_reducible rfl
    simp only [List.set_cons_zero, List.set_cons_succ]
    refine held_take (i := 28) (d := 54) (v := ?_) rfl (by kernel_rfl) (by kernel_rfl) (by kernel_rfl) rfl (fun _ _ _ h => h) rfl hH (fun w' hS => ?_) ?_
    rotate_left
    · clear hS; go_simp; first | done | with_reducible rfl
    simp only [List.set_cons_zero, List.set_cons_succ]
    refine held_only (i := 27) rfl (by kernel_rfl) rfl (fun K hK => ?_)
    go_simp
    refine (UC.out _ (X1.out.keeps hH)).mono ?_
    rintro e w8 ⟨v1, U, rfl, hU, _, O1, d⟩
    refine hK.out _ _ (bnext hH d) (fun hH => ?_)
    clear hK K
    clear d
    replace O1 := O1.less (Nat.zero_le _)
    refine held_and (fun w' => Own w' 0 v1 U) O1 hH (fun hH => ?_)
    clear O1
    refine held_only (i := 29) rfl (by kernel_rfl) rfl (fun K hK => ?_)
    go_simp
    refine (RC.out _ (X1.out.keeps hH.1)).mono ?_
    rintro e w9 ⟨v2, V, rfl, hV, O2, d⟩
    obtain rfl := hV.eq hU
    refine hK.out _ _ ⟨bnext hH.1 d, hH.2.keeps d⟩ (fun hH => ?_)
    clear hK K
    clear d
    obtain ⟨a1, p1, rfl, L1⟩ := hH.2.sl
    obtain ⟨a2, p2, rfl, L2⟩ := O2.sl
    refine held_only (i := 30) rfl (by kernel_rfl) rfl (fun K hK => ?_)
    go_simp
    refine (same_any a1 p1 a2 p2 _ _ _ L1 L2).mono ?_
    rintro e w10 ⟨rfl, d⟩
    refine hK.out _ _ ⟨bnext hH.1 d, hH.2.keeps d⟩ (fun hH => ?_)
    clear hK K
    refine held_take (i := 31) (d := 57) (v := ?_) rfl (by kernel_rfl) (by kernel_rfl) (by kernel_rfl) rfl (fun _ _ _ h => h) rfl hH (fun w' hS => ?_) ?_
    rotate_left
    · clear hS; go_simp; first | done | with_reducible rfl
    simp only [List.set_cons_zero, List.set_cons_succ]
    refine held_take (i := 32) (d := 6) (v := ?_) rfl (by kernel_rfl) (by kernel_rfl) (by kernel_rfl) rfl (fun _ _ _ h => h) rfl hH (fun w' hS => ?_) ?_
    rotate_left
    · clear hS; go_simp; first | done | with_reducible rfl
    simp only [List.set_cons_zero, List.set_cons_succ]
    refine wpAnyH_done (by kernel_rfl) ?_ _
    refine noPanic_of ?_
    replace b1 := Lib.hid (bnext b1.out hH.1)
    clear hH L1 L2 O2 A B I J UC RC KA RA KB RB C3
    go_wp2_with fail
    go_ret
    exact ⟨rfl, b1.out⟩
end Go.Proofs.Ytdhdofgdeljajaa

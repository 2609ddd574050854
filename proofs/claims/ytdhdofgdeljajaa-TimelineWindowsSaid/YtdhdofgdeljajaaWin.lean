/-
  The walk of TimelineWindows.
-/
import Derived.Test.YtdhdofgdeljajaaExa
namespace Go.Proofs.Ytdhdofgdeljajaa
open Go.RowKit

set_option maxHeartbeats 600000 in
theorem walk_windows (k s t : Int) (w : World) : Calls Try.prog 4 #[.agg #[.int .i64 k, .int .i64 s], .int .i64 t] w fun e w' => e = .returned (.bool true) ∧ Below w.heap.size w w' := by
  have C1 := Lib.hid (bounds_any k s t)
  have C2 := Lib.hid (rbounds_any k s t)
  have C3 := Lib.hid example_any
  generalize bd k s t = P at *
  obtain ⟨⟨p, q⟩, o⟩ := P
  simp only at C1 C2
  have A := Lib.hid (Bw.new w k s 35)
  have b1 := Lib.hid (balloc (b0 w) (.cells #[.int .i64 k, .int .i64 s] 35))
  go_enter Try.func4, Try.ntmps4
  go_wp2_with fail
  refine (C1.out _).mono ?_
  rintro e w1 ⟨rfl, d⟩
  obtain ⟨a0, a1, _, _⟩ := (A.out.keeps d).past (.cells #[.int .i64 p, .int .i64 q] 23)
  replace b1 := Lib.hid (bnext b1.out d)
  have I := Lib.hid (Bw.new w1 p q 23)
  clear d A C1
  go_wp2_with fail
  refine (C2.out _).mono ?_
  rintro e w2 ⟨rfl, d⟩
  replace b1 := Lib.hid (bnext b1.out (step_alloc d))
  replace I := Lib.hid (I.out.keeps d)
  have J := Lib.hid (Bw.new w2 p q 23)
  clear d a0 a1 C2
  generalize w1.heap.size = r1 at *
  go_wp2_with fail
  refine (C3.out _).mono ?_
  rintro e w3 ⟨rfl, d⟩
  replace b1 := Lib.hid (bnext b1.out (step_alloc d))
  obtain ⟨i0, i1, _, _⟩ := I.out.keeps (step_alloc d)
  obtain ⟨j0, j1, _, _⟩ := J.out.keeps d
  clear d I J C3
  generalize w2.heap.size = r2 at *
  cases o
  · go_wp2_with fail
    go_ret
    exact ⟨rfl, b1.out⟩
  · go_wp2_with fail
    go_ret
    exact ⟨rfl, b1.out⟩
end Go.Proofs.Ytdhdofgdeljajaa

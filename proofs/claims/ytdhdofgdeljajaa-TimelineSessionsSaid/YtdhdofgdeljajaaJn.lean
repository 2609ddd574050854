/-
  joinWithin, what it returns, and merged.
-/
import Derived.Test.YtdhdofgdeljajaaRbk
namespace Go.Proofs.Ytdhdofgdeljajaa
open Go.RowKit

set_option maxHeartbeats 1000000 in
theorem join_any (x1 x2 y1 y2 gap : Int) (b : Nat) (w : World) (hg : w.cell? ⟨b, 0, none⟩ = some (.int .i64 gap)) (hd : -2199023255552 ≤ y1 - x2 ∧ y1 - x2 ≤ 2199023255552) :
    Calls Try.prog 49 #[.agg #[.int .i64 x1, .int .i64 x2], .agg #[.int .i64 y1, .int .i64 y2], .pointer (some ⟨b, 0, none⟩)] w fun e w' => e = .returned (.tuple #[.agg #[.int .i64 x1, .int .i64 (max x2 y2)], .bool (decide (y1 - x2 ≤ gap))]) ∧ Below w.heap.size w w' := by
  have f1 : wrap64 (y1 - x2) = y1 - x2 := fitsW (by omega) (by omega)
  have m1 := max_walk x2 y2
  generalize max x2 y2 = p at *
  have hlt := block_lt_of_cell hg
  simp only at hlt
  have A := ((Bw.new w x1 x2 23).past (.cells #[.int .i64 y1, .int .i64 y2] 23)).past (.cells #[.int .i64 0, .int .i64 0] 23)
  have B := (Bw.new (w.alloc (.cells #[.int .i64 x1, .int .i64 x2] 23)) y1 y2 23).past (.cells #[.int .i64 0, .int .i64 0] 23)
  have R := Bw.new ((w.alloc (.cells #[.int .i64 x1, .int .i64 x2] 23)).alloc (.cells #[.int .i64 y1, .int .i64 y2] 23)) 0 0 23
  have b1 := balloc (balloc (balloc (b0 w) (.cells #[.int .i64 x1, .int .i64 x2] 23)) (.cells #[.int .i64 y1, .int .i64 y2] 23)) (.cells #[.int .i64 0, .int .i64 0] 23)
  simp only [alloc_size] at A B R
  have G := keeps b1 hg
  replace A := Lib.hid A
  replace B := Lib.hid B
  replace R := Lib.hid R
  replace G := Lib.hid G
  replace b1 := Lib.hid b1
  have hd2 := Lib.hid hd
  clear hd hg
  go_enter Try.func49, Try.ntmps49
  go_wp2_with fail
  generalize ((w.alloc (.cells #[.int .i64 x1, .int .i64 x2] 23)).alloc (.cells #[.int .i64 y1, .int .i64 y2] 23)).alloc (.cells #[.int .i64 0, .int .i64 0] 23) = w1 at *
  obtain ⟨a0, a1, _, _⟩ := A.out
  obtain ⟨c0, c1, _, _⟩ := B.out
  obtain ⟨r0, r1, g0, g1⟩ := R.out
  have G1 : (w1.setCell ⟨w.heap.size + 1 + 1, 0, none⟩ (.int .i64 x1)).cell? ⟨b, 0, none⟩ = some (.int .i64 gap) := by
    rw [World.cell?_setCell_other _ _ _ _ (fun h => by have := congrArg Addr.block h; simp only at this; omega)]
    exact G.out
  have G0 := G.out
  have d0 := (R.out.put x1 p).c0
  have d1 := (R.out.put x1 p).c1
  have bb := (put_below (b := w.heap.size + 1 + 1) b1.out (by omega) (.int .i64 x1) (.int .i64 p)).drew
  replace bb := Lib.hid bb
  clear A B R G b1 hlt
  go_region
  go_wp2_with fail
  simp [bodyPost, results, Try.results49, go_sem, d0, d1]
  exact bb.out
theorem joinWithin_any (gap : Int) (w : World) : Calls Try.prog 36 #[.int .i64 gap] w fun e w' => e = .returned (.func (.func 49) #[] #[.pointer (some ⟨w.heap.size, 0, none⟩)]) ∧ w' = w.alloc (.cells #[.int .i64 gap] 3) := by
  go_enter Try.func36, Try.ntmps36
  go_wp2_with fail
  go_ret
  exact ⟨rfl, rfl⟩
theorem merged_any (a : Option Addr) (n cap : Nat) (f : Fn) (x y : Array Value) (w : World) : Calls Try.prog 35 #[.slice a n cap, .func f x y] w fun e w' => e = .returned (.func (.func 48) #[] #[.pointer (some ⟨w.heap.size, 0, none⟩), .pointer (some ⟨w.heap.size + 1, 0, none⟩)]) ∧ w' = (w.alloc (.cells #[.slice a n cap] 24)).alloc (.cells #[.func f x y] 26) := by
  go_enter Try.func35, Try.ntmps35
  go_wp2_with fail
  go_ret
  exact ⟨rfl, rfl⟩
end Go.Proofs.Ytdhdofgdeljajaa

/-
  The small functions: Check, Meet, Bounds, and what they call; their references.
-/
import Derived.Test.YtdhdofgdeljajaaChecked
import Derived.Test.YtdhdofgdeljajaaIv
import Derived.WalkKit
import Derived.Below
import Derived.Lib.Hide
namespace Go.Proofs.Ytdhdofgdeljajaa
open Go.RowKit

theorem keeps {W w1 : World} (hb : Below W.heap.size W w1) {k o : Nat} {v : Value} (h : W.cell? ⟨k, o, none⟩ = some v) : w1.cell? ⟨k, o, none⟩ = some v := by
  rw [hb.cell (p := ⟨k, o, none⟩) (block_lt_of_cell h)]; exact h
theorem bnext {w a b : World} (h : Below w.heap.size w a) (k : Below a.heap.size a b) : Below w.heap.size w b := h.trans (k.mono h.size)
theorem b0 (w : World) : Below w.heap.size w w := Below.refl _ _
theorem balloc {w a : World} (h : Below w.heap.size w a) (o : Obj) : Below w.heap.size w (a.alloc o) := h.alloc h.size o
theorem alloc_size (w : World) (o : Obj) : (w.alloc o).heap.size = w.heap.size + 1 := by simp
theorem ret_bool {a b : Bool} (h : a = b) : Ending.returned (Value.bool a) = .returned (.bool b) := by rw [h]
theorem ret_int {k : IntKind} {a b : Int} (h : a = b) : Ending.returned (.int k a) = .returned (.int k b) := by rw [h]

theorem check_any (x y : Int) (w : World) : Calls Try.prog 15 #[.agg #[.int .i64 x, .int .i64 y]] w fun e w' => e = .returned (.int .i64 (if okI (x, y) then 0 else 1)) ∧ Below w.heap.size w w' := by
  go_enter Try.func15, Try.ntmps15
  go_wp2_with fail
  all_goals go_ret
  all_goals refine ⟨ret_int ?_, balloc (b0 w) _⟩
  all_goals simp_all [okI]
  all_goals omega
theorem valid_any (x y : Int) (w : World) : Calls Try.prog 30 #[.agg #[.int .i64 x, .int .i64 y]] w fun e w' => e = .returned (.bool (okI (x, y))) ∧ Below w.heap.size w w' := by
  have C := Lib.hid (check_any x y)
  generalize okI (x, y) = o at *
  go_enter Try.func30, Try.ntmps30
  go_wp2_with fail
  refine (C.out _).mono ?_
  rintro e w1 ⟨rfl, b1⟩
  replace b1 := bnext (balloc (b0 w) _) b1
  cases o
  all_goals go_wp2_with fail
  all_goals go_ret
  all_goals exact ⟨rfl, b1⟩
theorem rvalid_any (x y : Int) (w : World) : Calls Try.prog 31 #[.agg #[.int .i64 x, .int .i64 y]] w fun e w' => e = .returned (.bool (okI (x, y))) ∧ Below w.heap.size w w' := by
  go_enter Try.func31, Try.ntmps31
  go_wp2_with fail
  all_goals go_ret
  all_goals refine ⟨ret_bool ?_, balloc (b0 w) _⟩
  all_goals simp_all [okI]
  all_goals omega
theorem rcheck_any (x y : Int) (w : World) : Calls Try.prog 16 #[.agg #[.int .i64 x, .int .i64 y]] w fun e w' => e = .returned (.int .i64 (if okI (x, y) then 0 else 1)) ∧ Below w.heap.size w w' := by
  have C := Lib.hid (rvalid_any x y)
  generalize okI (x, y) = o at *
  go_enter Try.func16, Try.ntmps16
  go_wp2_with fail
  refine (C.out _).mono ?_
  rintro e w1 ⟨rfl, b1⟩
  replace b1 := bnext (balloc (b0 w) _) b1
  cases o
  all_goals go_wp2_with fail
  all_goals go_ret
  all_goals exact ⟨rfl, b1⟩
theorem tick_any (t : Int) (w : World) : Calls Try.prog 38 #[.int .i64 t] w fun e w' => e = .returned (.bool (decide (0 ≤ t) && decide (t ≤ 1099511627776))) ∧ w = w' := by
  go_enter Try.func38, Try.ntmps38
  go_wp2_with fail
  all_goals go_ret
  all_goals refine ⟨ret_bool ?_, rfl⟩
  all_goals simp_all
  all_goals omega
theorem rtick_any (t : Int) (w : World) : Calls Try.prog 41 #[.int .i64 t] w fun e w' => e = .returned (.bool (decide (0 ≤ t) && decide (t ≤ 1099511627776))) ∧ w = w' := by
  go_enter Try.func41, Try.ntmps41
  go_wp2_with fail
  all_goals go_ret
  all_goals refine ⟨ret_bool ?_, rfl⟩
  all_goals simp_all
  all_goals omega
theorem isz_eq (t : Int) : isz t = (!(t == 0) && (decide (0 ≤ t) && decide (t ≤ 1099511627776))) := by
  unfold isz
  rw [Bool.eq_iff_iff]
  simp
  omega
theorem size_any (t : Int) (w : World) : Calls Try.prog 39 #[.int .i64 t] w fun e w' => e = .returned (.bool (isz t)) ∧ w = w' := by
  have C := Lib.hid (tick_any t)
  rw [isz_eq]
  by_cases h : t = 0
  · subst h
    go_enter Try.func39, Try.ntmps39
    go_wp2_with fail
    go_ret
    exact ⟨rfl, rfl⟩
  · have h1 : (t == 0) = false := by simpa using h
    have h2 : (t != 0) = true := by simpa using h
    rw [h1]
    generalize (decide (0 ≤ t) && decide (t ≤ 1099511627776)) = o at *
    go_enter Try.func39, Try.ntmps39
    go_wp2_with fail
    refine (C.out _).mono ?_
    rintro e w1 ⟨rfl, rfl⟩
    go_wp2_with fail
    go_ret
    exact ⟨rfl, rfl⟩
theorem inside_any (x y t : Int) (w : World) : Calls Try.prog 29 #[.agg #[.int .i64 x, .int .i64 y], .int .i64 t] w fun e w' => e = .returned (.bool (decide (x ≤ t) && decide (t ≤ y))) ∧ Below w.heap.size w w' := by
  go_enter Try.func29, Try.ntmps29
  go_wp2_with fail
  all_goals go_ret
  all_goals refine ⟨ret_bool ?_, balloc (b0 w) _⟩
  all_goals simp_all
  all_goals omega
end Go.Proofs.Ytdhdofgdeljajaa

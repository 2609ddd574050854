/-
  strconv.Itoa; the printers of package values.
-/
import Derived.Test.YtkfciilclfhabaaGreatDoorTbs
namespace Go.Proofs.YtkfciilclfhabaaGreatDoor
open Go.RowKit dec

theorem itoa_any (n : Int) (h0 : -9223372036854775808 ≤ n) (h1 : n ≤ 9223372036854775807) (w : World) (T : Tabs w) :
    Calls Tryz.prog 70 #[.int .i64 n] w fun e w' => e = .returned (.string ⟨(Lib.itoa n).toArray⟩) ∧ Below w.heap.size w w' := by
  refine (Tryz.strconv_Itoa n h0 h1 w T.ten).mono ?_
  rintro e w' ⟨rfl, k, os, rfl⟩
  exact ⟨rfl, below_regrown w (w.drewN k).drawn os⟩

/-! The printers. -/
theorem pNull (k n : Int) (s : ByteArray) (w : World) : Calls Tryz.prog 37 #[.agg #[.int .i64 k, .int .i64 n, .string s]] w fun e w' => e = .returned (.string ⟨[110, 117, 108, 108].toArray⟩) ∧ Below w.heap.size w w' := by
  go_enter Tryz.func37, Tryz.ntmps37
  go_wp2
  go_ret
  exact ⟨rfl, by first | exact balloc (b0 w) _ | exact b0 w⟩
theorem pBool (n : Int) (s : ByteArray) (k : Int) (w : World) : Calls Tryz.prog 38 #[.agg #[.int .i64 k, .int .i64 n, .string s]] w fun e w' => e = .returned (.string ⟨(Lib.formatBool (n == 1)).toArray⟩) ∧ Below w.heap.size w w' := by
  go_enter Tryz.func38, Tryz.ntmps38
  go_wp2_with (go_at_call 69; refine (Tryz.strconv_FormatBool _ _).mono ?_; rintro e w' ⟨rfl, rfl⟩)
  go_ret
  exact ⟨rfl, by first | exact balloc (b0 w) _ | exact b0 w⟩
theorem pInt (k n : Int) (s : ByteArray) (h0 : -9223372036854775808 ≤ n) (h1 : n ≤ 9223372036854775807) (w : World) (T : Tabs w) : Calls Tryz.prog 39 #[.agg #[.int .i64 k, .int .i64 n, .string s]] w fun e w' => e = .returned (.string ⟨(Lib.itoa n).toArray⟩) ∧ Below w.heap.size w w' := by
  have C := Lib.hid (fun w' (b : Below w.heap.size w w') => itoa_any n h0 h1 w' (T.stays b))
  clear T
  go_enter Tryz.func39, Tryz.ntmps39
  go_wp2_with fail
  refine (C.out _ (balloc (b0 w) _)).mono ?_
  rintro e w1 ⟨rfl, b1⟩
  replace b1 := bnext (balloc (b0 w) _) b1
  go_wp2_with fail
  go_ret
  exact ⟨rfl, b1⟩
theorem pDec (k n : Int) (s : ByteArray) (h0 : -9223372036854775808 ≤ n) (h1 : n ≤ 9223372036854775807) (w : World) (T : Tabs w) : Calls Tryz.prog 40 #[.agg #[.int .i64 k, .int .i64 n, .string s]] w fun e w' => e = .returned (.string ⟨(foX n).toArray⟩) ∧ Below w.heap.size w w' := by
  have C := Lib.hid (fun w' (b : Below w.heap.size w w') => format_any n h0 h1 w' (T.stays b).ten)
  clear T
  go_enter Tryz.func40, Tryz.ntmps40
  go_wp2_with fail
  refine (C.out _ (balloc (b0 w) _)).mono ?_
  rintro e w1 ⟨rfl, b1⟩
  replace b1 := bnext (balloc (b0 w) _) b1
  go_wp2_with fail
  go_ret
  exact ⟨rfl, b1⟩
theorem add_str (x y : List UInt8) (hx : x.length ≤ 1048576) (hy : y.length ≤ 1048576) (W : World) : (Op.stringOp .add ⟨x.toArray⟩ ⟨y.toArray⟩).run Tryz.prog W = .ok (.string ⟨(x ++ y).toArray⟩) W := run_string_add_lists W x y (by omega) (by omega)
theorem pKey (k n : Int) (s : ByteArray) (hs : s.size ≤ 1000) (w : World) : Calls Tryz.prog 42 #[.agg #[.int .i64 k, .int .i64 n, .string s]] w fun e w' => e = .returned (.string ⟨(64 :: s.data.toList).toArray⟩) ∧ Below w.heap.size w w' := by
  have A := add_str [64] s.data.toList (by decide) (by rw [← Lib.size_eq]; omega)
  replace A : ∀ W, (Op.stringOp .add ⟨#[64]⟩ s).run Tryz.prog W = .ok (.string ⟨(64 :: s.data.toList).toArray⟩) W := A
  generalize 64 :: s.data.toList = l at *
  go_enter Tryz.func42, Tryz.ntmps42
  go_wp2
  go_ret
  exact ⟨rfl, balloc (b0 w) _⟩
theorem pText (k n : Int) (s : ByteArray) (hs : s.size ≤ 1000) (w : World) : Calls Tryz.prog 41 #[.agg #[.int .i64 k, .int .i64 n, .string s]] w fun e w' => e = .returned (.string ⟨(34 :: (s.data.toList ++ [34])).toArray⟩) ∧ Below w.heap.size w w' := by
  have A := add_str [34] s.data.toList (by decide) (by rw [← Lib.size_eq]; omega)
  replace A : ∀ W, (Op.stringOp .add ⟨#[34]⟩ s).run Tryz.prog W = .ok (.string ⟨(34 :: s.data.toList).toArray⟩) W := A
  have B := add_str (34 :: s.data.toList) [34] (by rw [List.length_cons, ← Lib.size_eq]; omega) (by decide)
  replace B : ∀ W, (Op.stringOp .add ⟨(34 :: s.data.toList).toArray⟩ ⟨#[34]⟩).run Tryz.prog W = .ok (.string ⟨(34 :: (s.data.toList ++ [34])).toArray⟩) W := B
  generalize 34 :: (s.data.toList ++ [34]) = m at *
  generalize 34 :: s.data.toList = l at *
  go_enter Tryz.func41, Tryz.ntmps41
  go_wp2
  go_ret
  exact ⟨rfl, balloc (b0 w) _⟩
end Go.Proofs.YtkfciilclfhabaaGreatDoor

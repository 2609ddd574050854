/-
  The examples that each statement calls first: they hold.
-/
import Derived.Test.YtdppmppipbbepaaDivide
namespace Go.Proofs.Ytdppmppipbbepaa
open Go.RowKit Go.Shelf

theorem bnext {w a b : World} (h : Below w.heap.size w a) (k : Below a.heap.size a b) : Below w.heap.size w b := h.trans (k.mono h.size)
theorem balloc {w a : World} (h : Below w.heap.size w a) (o : Obj) : Below w.heap.size w (a.alloc o) := h.alloc h.size o
theorem b0 (w : World) : Below w.heap.size w w := Below.refl _ _

theorem of_b (n : Int) (w : World) (h1 : -9223372036854775808 ≤ n) (h2 : n ≤ 9223372036854775807) :
    Calls Try.prog 20 #[.int .i64 n] w fun e w' => e = .returned (W n) ∧ Below w.heap.size w w' :=
  (of_any n w h1 h2).mono fun _ _ ⟨he, _, hw⟩ => ⟨he, hw ▸ balloc (b0 w) _⟩
theorem add_b {x y : Value} {a b : Int} (hx : x = W a) (hy : y = W b) (w : World) :
    Calls Try.prog 14 #[x, y] w fun e w' => e = .returned (W (a + b)) ∧ Below w.heap.size w w' :=
  (add_any hx hy w).mono fun _ _ ⟨he, _, _, _, hw⟩ => ⟨he, hw ▸ balloc (balloc (balloc (b0 w) _) _) _⟩
theorem sub_b {x y : Value} {a b : Int} (hx : x = W a) (hy : y = W b) (w : World) :
    Calls Try.prog 16 #[x, y] w fun e w' => e = .returned (W (a - b)) ∧ Below w.heap.size w w' :=
  (sub_any hx hy w).mono fun _ _ ⟨he, _, _, _, hw⟩ => ⟨he, hw ▸ balloc (balloc (balloc (b0 w) _) _) _⟩
theorem neg_b {x : Value} {a : Int} (hx : x = W a) (w : World) :
    Calls Try.prog 18 #[x] w fun e w' => e = .returned (W (-a)) ∧ Below w.heap.size w w' :=
  (neg_any hx w).mono fun _ _ ⟨he, _, _, _, _, _, hw⟩ => ⟨he, hw ▸ balloc (balloc (balloc (balloc (balloc (b0 w) _) _) _) _) _⟩
theorem compare_b {x y : Value} {a b : Int} (hx : x = W a) (hy : y = W b) (ia : In a) (ib : In b) (w : World) :
    Calls Try.prog 22 #[x, y] w fun e w' => e = .returned (.int .i64 (cmp a b)) ∧ Below w.heap.size w w' :=
  (compare_any hx hy ia ib w).mono fun _ _ ⟨he, _, _, hw⟩ => ⟨he, hw ▸ balloc (balloc (b0 w) _) _⟩

instance (n : Int) : Decidable (In n) := by unfold In; exact inferInstance
theorem ex1 : W (-1) = .agg #[.int .i64 (-1), .int .u64 18446744073709551615] := by kernel_rfl
theorem ex2 : W (-3 * 5) = .agg #[.int .i64 (-1), .int .u64 18446744073709551601] := by kernel_rfl
theorem ex3 : W (4611686018427387904 * 4) = .agg #[.int .i64 1, .int .u64 0] := by kernel_rfl
theorem ex4 : Value.agg #[.int .i64 1, .int .u64 0] = W 18446744073709551616 := by kernel_rfl
theorem ex5 : W (-18446744073709551616) = .agg #[.int .i64 (-1), .int .u64 0] := by kernel_rfl
theorem ex6 : Value.agg #[.int .i64 0, .int .u64 9223372036854775808] = W 9223372036854775808 := by kernel_rfl
theorem ex7 : W (9223372036854775808 * 2) = .agg #[.int .i64 1, .int .u64 0] := by kernel_rfl
theorem ex8 : cmp (-1) 0 = -1 := by decide
theorem ex9 : dv 7 2 = 4 ∧ dvOk 7 2 = true ∧ dv 5 2 = 2 ∧ dvOk 5 2 = true ∧ dv (-5) 2 = -2 ∧ dvOk (-5) 2 = true ∧ dv (-7) 2 = -4 ∧ dvOk (-7) 2 = true ∧ dvOk 1152921504606846977 1 = false ∧ dvOk 1 0 = false := by decide +kernel

set_option maxHeartbeats 2000000 in
theorem example_any (w : World) : Calls Try.prog 13 #[] w fun e w' => e = .returned (.bool true) ∧ Below w.heap.size w w' := by
  go_enter Try.func13, Try.ntmps13
  go_wp2_with fail
  refine (of_b (-1) _ (by decide) (by decide)).mono ?_
  rw [ex1]
  rintro e w1 ⟨rfl, b1⟩
  go_wp2_with fail
  refine (mul_any (-3) 5 _ (by decide) (by decide) (by decide) (by decide)).mono ?_
  rw [ex2]
  rintro e w2 ⟨rfl, hb⟩
  have b2 := bnext b1 hb
  clear hb b1
  go_wp2_with fail
  refine (mul_any 4611686018427387904 4 _ (by decide) (by decide) (by decide) (by decide)).mono ?_
  rw [ex3]
  rintro e w3 ⟨rfl, hb⟩
  have b3 := bnext b2 hb
  clear hb b2
  go_wp2_with fail
  refine (neg_b ex4 _).mono ?_
  rw [ex5]
  rintro e w4 ⟨rfl, hb⟩
  have b4 := bnext b3 hb
  clear hb b3
  go_wp2_with fail
  refine (scale_any 2 ex6 _ (by decide) (by decide)).mono ?_
  rw [ex7]
  rintro e w5 ⟨rfl, hb⟩
  have b5 := bnext b4 hb
  clear hb b4
  go_wp2_with fail
  refine (of_b (-1) _ (by decide) (by decide)).mono ?_
  rintro e w6 ⟨rfl, hb⟩
  have b6 := bnext b5 hb
  clear hb b5
  go_wp2_with fail
  refine (of_b 0 _ (by decide) (by decide)).mono ?_
  rintro e w7 ⟨rfl, hb⟩
  have b7 := bnext b6 hb
  clear hb b6
  go_wp2_with fail
  refine (compare_b (a := -1) (b := 0) rfl rfl (by decide) (by decide) _).mono ?_
  rw [ex8]
  rintro e w8 ⟨rfl, hb⟩
  have b8 := bnext b7 hb
  clear hb b7
  go_wp2_with fail
  refine (of_b 7 _ (by decide) (by decide)).mono ?_
  rintro e w9 ⟨rfl, hb⟩
  have b9 := bnext b8 hb
  clear hb b8
  go_wp2_with fail
  refine (divide_any (a := 7) 2 rfl (by decide) _ (by decide) (by decide)).mono ?_
  rw [ex9.1, ex9.2.1]
  rintro e w10 ⟨rfl, hb⟩
  have b10 := bnext b9 hb
  clear hb b9
  go_wp2_with fail
  refine (of_b 5 _ (by decide) (by decide)).mono ?_
  rintro e w11 ⟨rfl, hb⟩
  have b11 := bnext b10 hb
  clear hb b10
  go_wp2_with fail
  refine (divide_any (a := 5) 2 rfl (by decide) _ (by decide) (by decide)).mono ?_
  rw [ex9.2.2.1, ex9.2.2.2.1]
  rintro e w12 ⟨rfl, hb⟩
  have b12 := bnext b11 hb
  clear hb b11
  go_wp2_with fail
  refine (of_b (-5) _ (by decide) (by decide)).mono ?_
  rintro e w13 ⟨rfl, hb⟩
  have b13 := bnext b12 hb
  clear hb b12
  go_wp2_with fail
  refine (divide_any (a := -5) 2 rfl (by decide) _ (by decide) (by decide)).mono ?_
  rw [ex9.2.2.2.2.1, ex9.2.2.2.2.2.1]
  rintro e w14 ⟨rfl, hb⟩
  have b14 := bnext b13 hb
  clear hb b13
  go_wp2_with fail
  refine (of_b (-7) _ (by decide) (by decide)).mono ?_
  rintro e w15 ⟨rfl, hb⟩
  have b15 := bnext b14 hb
  clear hb b14
  go_wp2_with fail
  refine (divide_any (a := -7) 2 rfl (by decide) _ (by decide) (by decide)).mono ?_
  rw [ex9.2.2.2.2.2.2.1, ex9.2.2.2.2.2.2.2.1]
  rintro e w16 ⟨rfl, hb⟩
  have b16 := bnext b15 hb
  clear hb b15
  go_wp2_with fail
  refine (of_b 1152921504606846977 _ (by decide) (by decide)).mono ?_
  rintro e w17 ⟨rfl, hb⟩
  have b17 := bnext b16 hb
  clear hb b16
  go_wp2_with fail
  refine (divide_any (a := 1152921504606846977) 1 rfl (by decide) _ (by decide) (by decide)).mono ?_
  rw [ex9.2.2.2.2.2.2.2.2.1]
  rintro e w18 ⟨rfl, hb⟩
  have b18 := bnext b17 hb
  clear hb b17
  go_wp2_with fail
  refine (of_b 1 _ (by decide) (by decide)).mono ?_
  rintro e w19 ⟨rfl, hb⟩
  have b19 := bnext b18 hb
  clear hb b18
  go_wp2_with fail
  refine (divide_any (a := 1) 0 rfl (by decide) _ (by decide) (by decide)).mono ?_
  rw [ex9.2.2.2.2.2.2.2.2.2]
  rintro e w20 ⟨rfl, hb⟩
  have b20 := bnext b19 hb
  clear hb b19
  go_wp2_with fail
  go_ret
  exact ⟨rfl, b20⟩
end Go.Proofs.Ytdppmppipbbepaa

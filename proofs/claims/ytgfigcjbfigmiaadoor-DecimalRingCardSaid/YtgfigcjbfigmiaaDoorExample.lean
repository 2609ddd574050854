/-
  The examples that each statement calls first: they hold.
-/
import Derived.Test.YtgfigcjbfigmiaaDoorParse2
import Derived.Test.YtgfigcjbfigmiaaDoorFormat2
namespace Go.Proofs.YtgfigcjbfigmiaaDoor
open Go.RowKit Go.Shelf

theorem is_same (x : Int) (k : Bool) (w : World) : Calls Tryd.prog 13 #[.int .i64 x, .bool k, .int .i64 x, .bool k] w fun e w' => e = .returned (.bool true) ∧ w = w' := by
  go_enter Tryd.func13, Tryd.ntmps13
  go_wp2
  go_ret
  exact ⟨rfl, rfl⟩

/-- The tables that Parse and Format read. -/
structure Tabs (w : World) : Prop where
  pow : Lib.TabIs Tryd.prog w "asof/decimal.powers" .i64 powTab
  ten : Lib.TabIs Tryd.prog w "internal/strconv.uint64pow10" .u64 Lib.pow10Tab
theorem Tabs.stays {w w' : World} (h : Tabs w) (hb : Below w.heap.size w w') : Tabs w' := ⟨tab_stays h.pow hb, tab_stays h.ten hb⟩

theorem pa0 : paX [45, 50, 46, 53] = -2500000 ∧ paE [45, 50, 46, 53] = 0 := by decide +kernel
theorem pa1 : paX [49, 49, 53, 50, 57, 50, 49, 53, 48, 52, 54, 48, 54, 46, 56, 52, 54, 57, 55, 54] = 1152921504606846976 ∧ paE [49, 49, 53, 50, 57, 50, 49, 53, 48, 52, 54, 48, 54, 46, 56, 52, 54, 57, 55, 54] = 0 := by decide +kernel
theorem pa2 : paX [49, 49, 53, 50, 57, 50, 49, 53, 48, 52, 54, 48, 54, 46, 56, 52, 54, 57, 55, 55] = 0 ∧ paE [49, 49, 53, 50, 57, 50, 49, 53, 48, 52, 54, 48, 54, 46, 56, 52, 54, 57, 55, 55] = 2 := by decide +kernel
theorem pa3 : paX [49, 46] = 0 ∧ paE [49, 46] = 3 := by decide +kernel
theorem pa4 : paX [45, 48] = 0 ∧ paE [45, 48] = 0 := by decide +kernel
theorem fo0 : foX (-2500000) = [45, 50, 46, 53, 48, 48, 48, 48, 48] := by
  have h : Int.natAbs (-2500000) = 2500000 := rfl
  unfold foX
  rw [h]
  simp [Lib.decDigits]
theorem fo1 : foX 7 = [48, 46, 48, 48, 48, 48, 48, 55] := by
  have h : Int.natAbs 7 = 7 := rfl
  unfold foX
  rw [h]
  simp [Lib.decDigits]
theorem fo2 : foX 0 = [48, 46, 48, 48, 48, 48, 48, 48] := by
  have h : Int.natAbs 0 = 0 := rfl
  unfold foX
  rw [h]
  simp [Lib.decDigits]

set_option maxHeartbeats 2000000 in
theorem texts_any (w : World) (T : Tabs w) : Calls Tryd.prog 29 #[] w fun e w' => e = .returned (.bool true) ∧ Below w.heap.size w w' := by
  have k0 := b0 w
  go_enter Tryd.func29, Tryd.ntmps29
  go_wp2_with fail
  refine (parse_any ⟨#[45, 50, 46, 53]⟩ _ (by decide) (T.stays k0).pow).mono ?_
  rw [show (⟨#[45, 50, 46, 53]⟩ : ByteArray).data.toList = [45, 50, 46, 53] from rfl, pa0.1, pa0.2]
  rintro e w1 ⟨rfl, hb⟩
  have k1 := bnext k0 hb
  clear hb
  go_wp2_with fail
  refine (parse_any ⟨#[49, 49, 53, 50, 57, 50, 49, 53, 48, 52, 54, 48, 54, 46, 56, 52, 54, 57, 55, 54]⟩ _ (by decide) (T.stays k1).pow).mono ?_
  rw [show (⟨#[49, 49, 53, 50, 57, 50, 49, 53, 48, 52, 54, 48, 54, 46, 56, 52, 54, 57, 55, 54]⟩ : ByteArray).data.toList = [49, 49, 53, 50, 57, 50, 49, 53, 48, 52, 54, 48, 54, 46, 56, 52, 54, 57, 55, 54] from rfl, pa1.1, pa1.2]
  rintro e w2 ⟨rfl, hb⟩
  have k2 := bnext k1 hb
  clear hb
  go_wp2_with fail
  refine (parse_any ⟨#[49, 49, 53, 50, 57, 50, 49, 53, 48, 52, 54, 48, 54, 46, 56, 52, 54, 57, 55, 55]⟩ _ (by decide) (T.stays k2).pow).mono ?_
  rw [show (⟨#[49, 49, 53, 50, 57, 50, 49, 53, 48, 52, 54, 48, 54, 46, 56, 52, 54, 57, 55, 55]⟩ : ByteArray).data.toList = [49, 49, 53, 50, 57, 50, 49, 53, 48, 52, 54, 48, 54, 46, 56, 52, 54, 57, 55, 55] from rfl, pa2.1, pa2.2]
  rintro e w3 ⟨rfl, hb⟩
  have k3 := bnext k2 hb
  clear hb
  go_wp2_with fail
  refine (parse_any ⟨#[49, 46]⟩ _ (by decide) (T.stays k3).pow).mono ?_
  rw [show (⟨#[49, 46]⟩ : ByteArray).data.toList = [49, 46] from rfl, pa3.1, pa3.2]
  rintro e w4 ⟨rfl, hb⟩
  have k4 := bnext k3 hb
  clear hb
  go_wp2_with fail
  refine (parse_any ⟨#[45, 48]⟩ _ (by decide) (T.stays k4).pow).mono ?_
  rw [show (⟨#[45, 48]⟩ : ByteArray).data.toList = [45, 48] from rfl, pa4.1, pa4.2]
  rintro e w5 ⟨rfl, hb⟩
  have k5 := bnext k4 hb
  clear hb
  go_wp2_with fail
  refine (format_any (-2500000) (by decide) (by decide) _ (T.stays k5).ten).mono ?_
  rw [fo0]
  rintro e w6 ⟨rfl, hb⟩
  have k6 := bnext k5 hb
  clear hb
  go_wp2_with fail
  refine (format_any 7 (by decide) (by decide) _ (T.stays k6).ten).mono ?_
  rw [fo1]
  rintro e w7 ⟨rfl, hb⟩
  have k7 := bnext k6 hb
  clear hb
  go_wp2_with fail
  refine (format_any 0 (by decide) (by decide) _ (T.stays k7).ten).mono ?_
  rw [fo2]
  rintro e w8 ⟨rfl, hb⟩
  have k8 := bnext k7 hb
  clear hb
  go_wp2_with fail
  go_ret
  exact ⟨rfl, k8⟩

theorem ex0 : kx (1152921504606 * 1000000) = 1152921504606000000 ∧ rg (1152921504606 * 1000000) = true := by decide +kernel
theorem ex1 : kx (1152921504607 * 1000000) = 0 ∧ rg (1152921504607 * 1000000) = false := by decide +kernel
theorem ex2 : ti 2500000 = 2 := by decide +kernel
theorem ex3 : ti 3500000 = 4 := by decide +kernel
theorem ex4 : ti (-2500001) = -3 := by decide +kernel
theorem ex5 : adX 1500000 (-2000000) = -500000 ∧ adK 1500000 (-2000000) = true := by decide +kernel
theorem ex6 : adX 1152921504606846976 1 = 0 ∧ adK 1152921504606846976 1 = false := by decide +kernel
theorem ex7 : suX (-1) 1152921504606846976 = 0 ∧ suK (-1) 1152921504606846976 = false := by decide +kernel
theorem ex8 : muX 1500000 1500000 = 2250000 ∧ muK 1500000 1500000 = true := by decide +kernel
theorem ex9 : muX 1152921504606846976 1000000 = 1152921504606846976 ∧ muK 1152921504606846976 1000000 = true := by decide +kernel
theorem ex10 : muX 1152921504606846976 1000001 = 0 ∧ muK 1152921504606846976 1000001 = false := by decide +kernel
theorem ex11 : muX 3 500000 = 2 ∧ muK 3 500000 = true := by decide +kernel
theorem ex12 : diX 2000000 3000000 = 666667 ∧ diK 2000000 3000000 = true := by decide +kernel
theorem ex13 : diX 3 2000000 = 2 ∧ diK 3 2000000 = true := by decide +kernel
theorem ex14 : diX 1 0 = 0 ∧ diK 1 0 = false := by decide +kernel

set_option maxRecDepth 100000 in
set_option maxHeartbeats 4000000 in
theorem example_any (w : World) (T : Tabs w) : Calls Tryd.prog 10 #[] w fun e w' => e = .returned (.bool true) ∧ Below w.heap.size w w' := by
  have k0 := b0 w
  go_enter Tryd.func10, Tryd.ntmps10
  go_wp2_with fail
  refine (fromInt_any 1152921504606 _ (by decide) (by decide)).mono ?_
  rw [ex0.1, ex0.2]
  rintro e w1 ⟨rfl, hb⟩
  have k1 := bnext k0 hb
  clear hb k0
  go_wp2_with fail
  refine (fromInt_any 1152921504607 _ (by decide) (by decide)).mono ?_
  rw [ex1.1, ex1.2]
  rintro e w2 ⟨rfl, hb⟩
  have k2 := bnext k1 hb
  clear hb k1
  go_wp2_with fail
  refine (is_same 1152921504606000000 true _).mono ?_
  rintro e w' ⟨rfl, rfl⟩
  go_wp2_with fail
  refine (is_same 0 false _).mono ?_
  rintro e w' ⟨rfl, rfl⟩
  go_wp2_with fail
  refine (toInt_any 2500000 _ (by decide) (by decide)).mono ?_
  rw [ex2]
  rintro e w3 ⟨rfl, hb⟩
  have k3 := bnext k2 hb
  clear hb k2
  go_wp2_with fail
  refine (toInt_any 3500000 _ (by decide) (by decide)).mono ?_
  rw [ex3]
  rintro e w4 ⟨rfl, hb⟩
  have k4 := bnext k3 hb
  clear hb k3
  go_wp2_with fail
  refine (toInt_any (-2500001) _ (by decide) (by decide)).mono ?_
  rw [ex4]
  rintro e w5 ⟨rfl, hb⟩
  have k5 := bnext k4 hb
  clear hb k4
  go_wp2_with fail
  refine (add_dec 1500000 (-2000000) _).mono ?_
  rw [ex5.1, ex5.2]
  rintro e w6 ⟨rfl, hb⟩
  have k6 := bnext k5 hb
  clear hb k5
  go_wp2_with fail
  refine (add_dec 1152921504606846976 1 _).mono ?_
  rw [ex6.1, ex6.2]
  rintro e w7 ⟨rfl, hb⟩
  have k7 := bnext k6 hb
  clear hb k6
  go_wp2_with fail
  refine (is_same (-500000) true _).mono ?_
  rintro e w' ⟨rfl, rfl⟩
  go_wp2_with fail
  refine (is_same 0 false _).mono ?_
  rintro e w' ⟨rfl, rfl⟩
  go_wp2_with fail
  refine (sub_dec (-1) 1152921504606846976 _).mono ?_
  rw [ex7.1, ex7.2]
  rintro e w8 ⟨rfl, hb⟩
  have k8 := bnext k7 hb
  clear hb k7
  go_wp2_with fail
  refine (mul_dec 1500000 1500000 _).mono ?_
  rw [ex8.1, ex8.2]
  rintro e w9 ⟨rfl, hb⟩
  have k9 := bnext k8 hb
  clear hb k8
  go_wp2_with fail
  refine (is_same 0 false _).mono ?_
  rintro e w' ⟨rfl, rfl⟩
  go_wp2_with fail
  refine (is_same 2250000 true _).mono ?_
  rintro e w' ⟨rfl, rfl⟩
  go_wp2_with fail
  refine (mul_dec 1152921504606846976 1000000 _).mono ?_
  rw [ex9.1, ex9.2]
  rintro e w10 ⟨rfl, hb⟩
  have k10 := bnext k9 hb
  clear hb k9
  go_wp2_with fail
  refine (mul_dec 1152921504606846976 1000001 _).mono ?_
  rw [ex10.1, ex10.2]
  rintro e w11 ⟨rfl, hb⟩
  have k11 := bnext k10 hb
  clear hb k10
  go_wp2_with fail
  refine (is_same 1152921504606846976 true _).mono ?_
  rintro e w' ⟨rfl, rfl⟩
  go_wp2_with fail
  refine (is_same 0 false _).mono ?_
  rintro e w' ⟨rfl, rfl⟩
  go_wp2_with fail
  refine (mul_dec 3 500000 _).mono ?_
  rw [ex11.1, ex11.2]
  rintro e w12 ⟨rfl, hb⟩
  have k12 := bnext k11 hb
  clear hb k11
  go_wp2_with fail
  refine (div_dec 2000000 3000000 _).mono ?_
  rw [ex12.1, ex12.2]
  rintro e w13 ⟨rfl, hb⟩
  have k13 := bnext k12 hb
  clear hb k12
  go_wp2_with fail
  refine (is_same 2 true _).mono ?_
  rintro e w' ⟨rfl, rfl⟩
  go_wp2_with fail
  refine (is_same 666667 true _).mono ?_
  rintro e w' ⟨rfl, rfl⟩
  go_wp2_with fail
  refine (div_dec 3 2000000 _).mono ?_
  rw [ex13.1, ex13.2]
  rintro e w14 ⟨rfl, hb⟩
  have k14 := bnext k13 hb
  clear hb k13
  go_wp2_with fail
  refine (div_dec 1 0 _).mono ?_
  rw [ex14.1, ex14.2]
  rintro e w15 ⟨rfl, hb⟩
  have k15 := bnext k14 hb
  clear hb k14
  go_wp2_with fail
  refine (is_same 2 true _).mono ?_
  rintro e w' ⟨rfl, rfl⟩
  go_wp2_with fail
  refine (is_same 0 false _).mono ?_
  rintro e w' ⟨rfl, rfl⟩
  go_wp2_with fail
  refine (texts_any _ (T.stays k15)).mono ?_
  rintro e w16 ⟨rfl, hb⟩
  have k16 := bnext k15 hb
  go_wp2_with fail
  go_ret
  exact ⟨rfl, k16⟩
end Go.Proofs.YtgfigcjbfigmiaaDoor

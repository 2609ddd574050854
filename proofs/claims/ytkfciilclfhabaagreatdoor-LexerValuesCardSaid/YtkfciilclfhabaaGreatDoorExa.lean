/-
  The examples of the chapter.
-/
import Derived.Test.YtkfciilclfhabaaGreatDoorLxf
namespace Go.Proofs.YtkfciilclfhabaaGreatDoor
open Go.RowKit dec

set_option maxRecDepth 100000 in
set_option maxHeartbeats 8000000 in
theorem example_any (w : World) (T : Tabs w) : Calls Tryz.prog 7 #[] w fun e w' => e = .returned (.bool true) ∧ Below w.heap.size w w' := by
  have T0 := Lib.hid T
  have H0 := Lib.hid (fun a c b d W hl hb T => has_any ⟨#[97, 60, 61, 49, 46, 53, 32, 35, 32, 110, 111, 116, 101]⟩ (by decide) a 3 c xL0 b 0 d xB0 xT0.1 xT0.2.1 xT0.2.2 xW0 (by decide) W hl hb T)
  have H1 := Lib.hid (fun a c b d W hl hb T => has_any ⟨#[120, 61, 61, 45, 49, 59]⟩ (by decide) a 5 c xL1 b 0 d xB1 xT1.1 xT1.2.1 xT1.2.2 xW1 (by decide) W hl hb T)
  have H2 := Lib.hid (fun a c b d W hl hb T => has_any ⟨#[49, 50, 97, 98, 32, 49, 46]⟩ (by decide) a 3 c xL2 b 1 d xB2 xT2.1 xT2.2.1 xT2.2.2 xW2 (by decide) W hl hb T)
  have H3 := Lib.hid (fun a c b d W hl hb T => has_any ⟨#[97, 32, 36, 36, 32, 98, 32, 36]⟩ (by decide) a 2 c xL3 b 2 d xB3 xT3.1 xT3.2.1 xT3.2.2 xW3 (by decide) W hl hb T)
  have H4 := Lib.hid (fun a c b d W hl hb T => has_any ⟨#[34, 97, 32, 98, 34, 32, 34, 99]⟩ (by decide) a 2 c xL4 b 1 d xB4 xT4.1 xT4.2.1 xT4.2.2 xW4 (by decide) W hl hb T)
  have H5 := Lib.hid (fun a c b d W hl hb T => has_any ⟨#[48, 46, 49, 50, 51, 52, 53, 54, 55]⟩ (by decide) a 0 c xL5 b 1 d xB5 xT5.1 xT5.2.1 xT5.2.2 xW5 (by decide) W hl hb T)
  have J1 := Lib.hid (fun a c W hl T => join_go a 2 c jL1 W hl ⟨by decide, by decide⟩ T)
  have J2 := Lib.hid (fun a c W hl T => join_go a 1 c jL2 W hl ⟨by decide, by decide⟩ T)
  unfold JR at J1 J2
  rw [jT1.1, jT1.2] at J1
  rw [jT2] at J2
  have K1 := Lib.hid (fun W => keyword_any ⟨#[99, 111, 117, 110, 116]⟩ W)
  rw [kwT] at K1
  have N0 := Lib.hid (fun W T => name_any ⟨#[99, 111, 117, 110, 116]⟩ (by decide) W T)
  rw [nT0] at N0
  have N1 := Lib.hid (fun W T => name_any ⟨#[99, 111, 117, 110, 116, 115]⟩ (by decide) W T)
  rw [nT1] at N1
  have N2 := Lib.hid (fun W T => name_any ⟨#[95, 97]⟩ (by decide) W T)
  rw [nT2] at N2
  have N3 := Lib.hid (fun W T => name_any ⟨#[65]⟩ (by decide) W T)
  rw [nT3] at N3
  clear T
  go_enter Tryz.func7, Tryz.ntmps7
  go_wp2_with fail
  refine (tok_any 1 ⟨#[97]⟩ 0 _).mono ?_
  rintro e w1 ⟨rfl, bX⟩
  have B1 := Lib.hid bX
  clear bX
  go_wp2_with fail
  refine (tok_any 5 ⟨#[60, 61]⟩ 1 _).mono ?_
  rintro e w2 ⟨rfl, bX⟩
  have B2 := Lib.hid (bnext B1.out bX)
  clear bX
  go_wp2_with fail
  refine (tok_any 3 ⟨#[49, 46, 53]⟩ 3 _).mono ?_
  rintro e w3 ⟨rfl, bX⟩
  have B3 := Lib.hid (bnext B2.out bX)
  clear bX
  go_wp2_with fail
  have SL0 := Lib.hid (tk.sl_lit w3 xL0 3 rfl #[.int .i64 1, .string ⟨#[97]⟩, .int .i64 0, .int .i64 5, .string ⟨#[60, 61]⟩, .int .i64 1, .int .i64 3, .string ⟨#[49, 46, 53]⟩, .int .i64 3] rfl (by decide))
  have B4 := Lib.hid (balloc B3.out (.cells #[.int .i64 1, .string ⟨#[97]⟩, .int .i64 0, .int .i64 5, .string ⟨#[60, 61]⟩, .int .i64 1, .int .i64 3, .string ⟨#[49, 46, 53]⟩, .int .i64 3] 39))
  have SP0 := Lib.hid (pb.Sl.nil (w3.alloc (.cells #[.int .i64 1, .string ⟨#[97]⟩, .int .i64 0, .int .i64 5, .string ⟨#[60, 61]⟩, .int .i64 1, .int .i64 3, .string ⟨#[49, 46, 53]⟩, .int .i64 3] 39)))
  have SM0 := SL0
  refine (H0.out _ _ _ _ _ SM0.out SP0.out (T0.out.stays B4.out)).mono ?_
  rintro e w5 ⟨rfl, bX⟩
  have B5 := Lib.hid (bnext B4.out bX)
  clear bX
  go_wp2_with fail
  refine (tok_any 1 ⟨#[120]⟩ 0 _).mono ?_
  rintro e w6 ⟨rfl, bX⟩
  have B6 := Lib.hid (bnext B5.out bX)
  clear bX
  go_wp2_with fail
  refine (tok_any 5 ⟨#[61, 61]⟩ 1 _).mono ?_
  rintro e w7 ⟨rfl, bX⟩
  have B7 := Lib.hid (bnext B6.out bX)
  clear bX
  go_wp2_with fail
  refine (tok_any 5 ⟨#[45]⟩ 3 _).mono ?_
  rintro e w8 ⟨rfl, bX⟩
  have B8 := Lib.hid (bnext B7.out bX)
  clear bX
  go_wp2_with fail
  refine (tok_any 2 ⟨#[49]⟩ 4 _).mono ?_
  rintro e w9 ⟨rfl, bX⟩
  have B9 := Lib.hid (bnext B8.out bX)
  clear bX
  go_wp2_with fail
  refine (tok_any 5 ⟨#[59]⟩ 5 _).mono ?_
  rintro e w10 ⟨rfl, bX⟩
  have B10 := Lib.hid (bnext B9.out bX)
  clear bX
  go_wp2_with fail
  have SL1 := Lib.hid (tk.sl_lit w10 xL1 5 rfl #[.int .i64 1, .string ⟨#[120]⟩, .int .i64 0, .int .i64 5, .string ⟨#[61, 61]⟩, .int .i64 1, .int .i64 5, .string ⟨#[45]⟩, .int .i64 3, .int .i64 2, .string ⟨#[49]⟩, .int .i64 4, .int .i64 5, .string ⟨#[59]⟩, .int .i64 5] rfl (by decide))
  have B11 := Lib.hid (balloc B10.out (.cells #[.int .i64 1, .string ⟨#[120]⟩, .int .i64 0, .int .i64 5, .string ⟨#[61, 61]⟩, .int .i64 1, .int .i64 5, .string ⟨#[45]⟩, .int .i64 3, .int .i64 2, .string ⟨#[49]⟩, .int .i64 4, .int .i64 5, .string ⟨#[59]⟩, .int .i64 5] 39))
  have SP1 := Lib.hid (pb.Sl.nil (w10.alloc (.cells #[.int .i64 1, .string ⟨#[120]⟩, .int .i64 0, .int .i64 5, .string ⟨#[61, 61]⟩, .int .i64 1, .int .i64 5, .string ⟨#[45]⟩, .int .i64 3, .int .i64 2, .string ⟨#[49]⟩, .int .i64 4, .int .i64 5, .string ⟨#[59]⟩, .int .i64 5] 39)))
  have SM1 := SL1
  refine (H1.out _ _ _ _ _ SM1.out SP1.out (T0.out.stays B11.out)).mono ?_
  rintro e w12 ⟨rfl, bX⟩
  have B12 := Lib.hid (bnext B11.out bX)
  clear bX
  go_wp2_with fail
  refine (tok_any 2 ⟨#[49, 50]⟩ 0 _).mono ?_
  rintro e w13 ⟨rfl, bX⟩
  have B13 := Lib.hid (bnext B12.out bX)
  clear bX
  go_wp2_with fail
  refine (tok_any 1 ⟨#[97, 98]⟩ 2 _).mono ?_
  rintro e w14 ⟨rfl, bX⟩
  have B14 := Lib.hid (bnext B13.out bX)
  clear bX
  go_wp2_with fail
  refine (tok_any 2 ⟨#[49]⟩ 5 _).mono ?_
  rintro e w15 ⟨rfl, bX⟩
  have B15 := Lib.hid (bnext B14.out bX)
  clear bX
  go_wp2_with fail
  have SL2 := Lib.hid (tk.sl_lit w15 xL2 3 rfl #[.int .i64 2, .string ⟨#[49, 50]⟩, .int .i64 0, .int .i64 1, .string ⟨#[97, 98]⟩, .int .i64 2, .int .i64 2, .string ⟨#[49]⟩, .int .i64 5] rfl (by decide))
  have B16 := Lib.hid (balloc B15.out (.cells #[.int .i64 2, .string ⟨#[49, 50]⟩, .int .i64 0, .int .i64 1, .string ⟨#[97, 98]⟩, .int .i64 2, .int .i64 2, .string ⟨#[49]⟩, .int .i64 5] 39))
  have sp2 := pb.sl_lit (w15.alloc (.cells #[.int .i64 2, .string ⟨#[49, 50]⟩, .int .i64 0, .int .i64 1, .string ⟨#[97, 98]⟩, .int .i64 2, .int .i64 2, .string ⟨#[49]⟩, .int .i64 5] 39)) xB2 1 rfl #[.int .i64 6, .int .i64 80] rfl (by decide)
  rw [show (w15.alloc (.cells #[.int .i64 2, .string ⟨#[49, 50]⟩, .int .i64 0, .int .i64 1, .string ⟨#[97, 98]⟩, .int .i64 2, .int .i64 2, .string ⟨#[49]⟩, .int .i64 5] 39)).heap.size = w15.heap.size + 1 by simp] at sp2
  have SP2 := Lib.hid sp2
  clear sp2
  have SM2 := Lib.hid (SL2.out.keeps (balloc (b0 _) (.cells #[.int .i64 6, .int .i64 80] 52)))
  have B17 := Lib.hid (balloc B16.out (.cells #[.int .i64 6, .int .i64 80] 52))
  refine (H2.out _ _ _ _ _ SM2.out SP2.out (T0.out.stays B17.out)).mono ?_
  rintro e w18 ⟨rfl, bX⟩
  have B18 := Lib.hid (bnext B17.out bX)
  clear bX
  go_wp2_with fail
  refine (tok_any 1 ⟨#[97]⟩ 0 _).mono ?_
  rintro e w19 ⟨rfl, bX⟩
  have B19 := Lib.hid (bnext B18.out bX)
  clear bX
  go_wp2_with fail
  refine (tok_any 1 ⟨#[98]⟩ 5 _).mono ?_
  rintro e w20 ⟨rfl, bX⟩
  have B20 := Lib.hid (bnext B19.out bX)
  clear bX
  go_wp2_with fail
  have SL3 := Lib.hid (tk.sl_lit w20 xL3 2 rfl #[.int .i64 1, .string ⟨#[97]⟩, .int .i64 0, .int .i64 1, .string ⟨#[98]⟩, .int .i64 5] rfl (by decide))
  have B21 := Lib.hid (balloc B20.out (.cells #[.int .i64 1, .string ⟨#[97]⟩, .int .i64 0, .int .i64 1, .string ⟨#[98]⟩, .int .i64 5] 39))
  have sp3 := pb.sl_lit (w20.alloc (.cells #[.int .i64 1, .string ⟨#[97]⟩, .int .i64 0, .int .i64 1, .string ⟨#[98]⟩, .int .i64 5] 39)) xB3 2 rfl #[.int .i64 2, .int .i64 80, .int .i64 7, .int .i64 80] rfl (by decide)
  rw [show (w20.alloc (.cells #[.int .i64 1, .string ⟨#[97]⟩, .int .i64 0, .int .i64 1, .string ⟨#[98]⟩, .int .i64 5] 39)).heap.size = w20.heap.size + 1 by simp] at sp3
  have SP3 := Lib.hid sp3
  clear sp3
  have SM3 := Lib.hid (SL3.out.keeps (balloc (b0 _) (.cells #[.int .i64 2, .int .i64 80, .int .i64 7, .int .i64 80] 52)))
  have B22 := Lib.hid (balloc B21.out (.cells #[.int .i64 2, .int .i64 80, .int .i64 7, .int .i64 80] 52))
  refine (H3.out _ _ _ _ _ SM3.out SP3.out (T0.out.stays B22.out)).mono ?_
  rintro e w23 ⟨rfl, bX⟩
  have B23 := Lib.hid (bnext B22.out bX)
  clear bX
  go_wp2_with fail
  refine (tok_any 4 ⟨#[97, 32, 98]⟩ 0 _).mono ?_
  rintro e w24 ⟨rfl, bX⟩
  have B24 := Lib.hid (bnext B23.out bX)
  clear bX
  go_wp2_with fail
  refine (tok_any 1 ⟨#[99]⟩ 7 _).mono ?_
  rintro e w25 ⟨rfl, bX⟩
  have B25 := Lib.hid (bnext B24.out bX)
  clear bX
  go_wp2_with fail
  have SL4 := Lib.hid (tk.sl_lit w25 xL4 2 rfl #[.int .i64 4, .string ⟨#[97, 32, 98]⟩, .int .i64 0, .int .i64 1, .string ⟨#[99]⟩, .int .i64 7] rfl (by decide))
  have B26 := Lib.hid (balloc B25.out (.cells #[.int .i64 4, .string ⟨#[97, 32, 98]⟩, .int .i64 0, .int .i64 1, .string ⟨#[99]⟩, .int .i64 7] 39))
  have sp4 := pb.sl_lit (w25.alloc (.cells #[.int .i64 4, .string ⟨#[97, 32, 98]⟩, .int .i64 0, .int .i64 1, .string ⟨#[99]⟩, .int .i64 7] 39)) xB4 1 rfl #[.int .i64 6, .int .i64 80] rfl (by decide)
  rw [show (w25.alloc (.cells #[.int .i64 4, .string ⟨#[97, 32, 98]⟩, .int .i64 0, .int .i64 1, .string ⟨#[99]⟩, .int .i64 7] 39)).heap.size = w25.heap.size + 1 by simp] at sp4
  have SP4 := Lib.hid sp4
  clear sp4
  have SM4 := Lib.hid (SL4.out.keeps (balloc (b0 _) (.cells #[.int .i64 6, .int .i64 80] 52)))
  have B27 := Lib.hid (balloc B26.out (.cells #[.int .i64 6, .int .i64 80] 52))
  refine (H4.out _ _ _ _ _ SM4.out SP4.out (T0.out.stays B27.out)).mono ?_
  rintro e w28 ⟨rfl, bX⟩
  have B28 := Lib.hid (bnext B27.out bX)
  clear bX
  go_wp2_with fail
  have SL5 := Lib.hid (tk.Sl.nil w28)
  have sp5 := pb.sl_lit w28 xB5 1 rfl #[.int .i64 0, .int .i64 3] rfl (by decide)
  have SP5 := Lib.hid sp5
  clear sp5
  have SM5 := Lib.hid (SL5.out.keeps (balloc (b0 _) (.cells #[.int .i64 0, .int .i64 3] 52)))
  have B29 := Lib.hid (balloc B28.out (.cells #[.int .i64 0, .int .i64 3] 52))
  refine (H5.out _ _ _ _ _ SM5.out SP5.out (T0.out.stays B29.out)).mono ?_
  rintro e w30 ⟨rfl, bX⟩
  have B30 := Lib.hid (bnext B29.out bX)
  clear bX
  go_wp2_with fail
  refine (tok_any 1 ⟨#[97]⟩ 0 _).mono ?_
  rintro e w31 ⟨rfl, bX⟩
  have B31 := Lib.hid (bnext B30.out bX)
  clear bX
  go_wp2_with fail
  refine (tok_any 4 ⟨#[98, 32, 99]⟩ 0 _).mono ?_
  rintro e w32 ⟨rfl, bX⟩
  have B32 := Lib.hid (bnext B31.out bX)
  clear bX
  go_wp2_with fail
  have SJ1 := Lib.hid (tk.sl_lit w32 jL1 2 rfl #[.int .i64 1, .string ⟨#[97]⟩, .int .i64 0, .int .i64 4, .string ⟨#[98, 32, 99]⟩, .int .i64 0] rfl (by decide))
  have B33 := Lib.hid (balloc B32.out (.cells #[.int .i64 1, .string ⟨#[97]⟩, .int .i64 0, .int .i64 4, .string ⟨#[98, 32, 99]⟩, .int .i64 0] 39))
  refine (J1.out _ _ _ SJ1.out (T0.out.stays B33.out)).mono ?_
  rintro e w34 ⟨s1, a1, c1, hs1, rfl, bs1, bX⟩
  have B34 := Lib.hid (bnext B33.out bX)
  clear bX
  have BS := Lib.hid bs1
  clear bs1
  have qs : (s1.toList == [97, 32, 34, 98, 32, 99, 34]) = true := by rw [ByteArray.toList_eq, hs1]; rfl
  clear hs1
  go_wp2_with fail
  refine (tok_any 1 ⟨#[65]⟩ 0 _).mono ?_
  rintro e w35 ⟨rfl, bX⟩
  replace BS := Lib.hid (BS.out.keeps bX)
  have B35 := Lib.hid (bnext B34.out bX)
  clear bX
  go_wp2_with fail
  have SJ2 := Lib.hid (tk.sl_lit w35 jL2 1 rfl #[.int .i64 1, .string ⟨#[65]⟩, .int .i64 0] rfl (by decide))
  replace BS := Lib.hid (BS.out.keeps (balloc (b0 _) (.cells #[.int .i64 1, .string ⟨#[65]⟩, .int .i64 0] 39)))
  have B36 := Lib.hid (balloc B35.out (.cells #[.int .i64 1, .string ⟨#[65]⟩, .int .i64 0] 39))
  refine (J2.out _ _ _ SJ2.out (T0.out.stays B36.out)).mono ?_
  rintro e w37 ⟨s2, a2, c2, hs2, rfl, bs2, bX⟩
  clear hs2 bs2
  replace BS := Lib.hid (BS.out.keeps bX)
  have B37 := Lib.hid (bnext B36.out bX)
  clear bX
  have CV := BS.out.str
  go_wp2_with fail
  refine (K1.out _).mono ?_
  rintro e w38 ⟨rfl, rfl⟩
  go_wp2_with fail
  refine (N0.out _ (T0.out.stays B37.out)).mono ?_
  rintro e w39 ⟨rfl, bX⟩
  replace BS := Lib.hid (BS.out.keeps bX)
  have B39 := Lib.hid (bnext B37.out bX)
  clear bX
  go_wp2_with fail
  refine (N1.out _ (T0.out.stays B39.out)).mono ?_
  rintro e w40 ⟨rfl, bX⟩
  replace BS := Lib.hid (BS.out.keeps bX)
  have B40 := Lib.hid (bnext B39.out bX)
  clear bX
  go_wp2_with fail
  refine (N2.out _ (T0.out.stays B40.out)).mono ?_
  rintro e w41 ⟨rfl, bX⟩
  replace BS := Lib.hid (BS.out.keeps bX)
  have B41 := Lib.hid (bnext B40.out bX)
  clear bX
  go_wp2_with fail
  refine (N3.out _ (T0.out.stays B41.out)).mono ?_
  rintro e w42 ⟨rfl, bX⟩
  replace BS := Lib.hid (BS.out.keeps bX)
  have B42 := Lib.hid (bnext B41.out bX)
  clear bX
  go_wp2_with fail
  go_ret
  exact ⟨rfl, B42.out⟩
end Go.Proofs.YtkfciilclfhabaaGreatDoor

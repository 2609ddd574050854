/-
  The examples that each statement calls first: they hold.
-/
import Derived.Test.YtnkdclodmeaihaaGreatDoorExf
namespace Go.Proofs.YtnkdclodmeaihaaGreatDoor
open Go.RowKit dec

set_option maxRecDepth 100000 in
set_option maxHeartbeats 2000000 in
theorem example_any (w : World) (T : Tabs w) : Calls Tryz.prog 5 #[] w fun e w' => e = .returned (.bool true) ∧ Below w.heap.size w w' := by
  have k0 := b0 w
  go_enter Tryz.func5, Tryz.ntmps5
  go_wp2_with fail
  refine (one_any 0 0 ⟨#[]⟩ ⟨#[0]⟩ ⟨#[110, 117, 108, 108]⟩ _ (T.stays k0) k1 (by decide) b1' t1' (by decide)).mono ?_
  rintro e w1 ⟨rfl, b⟩
  replace k0 := bnext k0 b
  clear b
  go_wp2_with fail
  refine (one_any 1 1 ⟨#[]⟩ ⟨#[1, 1]⟩ ⟨#[116, 114, 117, 101]⟩ _ (T.stays k0) k2 (by decide) b2' t2' (by decide)).mono ?_
  rintro e w2 ⟨rfl, b⟩
  replace k0 := bnext k0 b
  clear b
  go_wp2_with fail
  refine (one_any 2 (-300) ⟨#[]⟩ ⟨#[2, 215, 4]⟩ ⟨#[45, 51, 48, 48]⟩ _ (T.stays k0) k3 (by decide) b3' t3' (by decide)).mono ?_
  rintro e w3 ⟨rfl, b⟩
  replace k0 := bnext k0 b
  clear b
  go_wp2_with fail
  refine (one_any 3 1500000 ⟨#[]⟩ ⟨#[3, 192, 141, 183, 1]⟩ ⟨#[49, 46, 53, 48, 48, 48, 48, 48]⟩ _ (T.stays k0) k4 (by decide) b4' t4' (by decide)).mono ?_
  rintro e w4 ⟨rfl, b⟩
  replace k0 := bnext k0 b
  clear b
  go_wp2_with fail
  refine (one_any 4 0 ⟨#[97, 32, 98]⟩ ⟨#[4, 3, 97, 32, 98]⟩ ⟨#[34, 97, 32, 98, 34]⟩ _ (T.stays k0) k5 (by decide) b5' t5' (by decide)).mono ?_
  rintro e w5 ⟨rfl, b⟩
  replace k0 := bnext k0 b
  clear b
  go_wp2_with fail
  refine (one_any 5 0 ⟨#[117, 55]⟩ ⟨#[5, 2, 117, 55]⟩ ⟨#[64, 117, 55]⟩ _ (T.stays k0) k6 (by decide) b6' t6' (by decide)).mono ?_
  rintro e w6 ⟨rfl, b⟩
  replace k0 := bnext k0 b
  clear b
  have V := Vx.new w6 1 2 ⟨#[]⟩ 23
  replace k0 := k0.alloc k0.size (.cells #[.int .i64 1, .int .i64 2, .string ⟨#[]⟩] 23)
  have x1 := balloc (b0 (w6.alloc (.cells #[.int .i64 1, .int .i64 2, .string ⟨#[]⟩] 23))) (.cells #[.int .u8 1, .int .u8 2] 5)
  have L := Li.two (w6.alloc (.cells #[.int .i64 1, .int .i64 2, .string ⟨#[]⟩] 23)) 1 2 (by decide) (by decide)
  rw [alloc_size] at L
  replace V := V.keeps x1
  replace k0 := bnext k0 x1
  clear x1
  go_wp2_with fail
  refine (readV_any _ 2 2 [1, 2] 0 _ L (by decide) _ _ _ rd_two).mono ?_
  rintro e w7 ⟨rfl, b⟩
  replace V := V.keeps b
  replace k0 := bnext k0 b
  clear b L
  have x1 := balloc (b0 w7) (.cells #[.int .i64 0, .int .i64 0, .string .empty] 23)
  replace V := V.keeps x1
  replace k0 := bnext k0 x1
  clear x1
  simp only
  go_wp2_with fail
  have C := parseV_any ⟨#[49, 46, 53]⟩ (by decide) _ (T.stays k0)
  rw [show (⟨#[49, 46, 53]⟩ : ByteArray).data.toList = [49, 46, 53] from rfl, ps15] at C
  refine C.mono ?_
  rintro e w8 ⟨v, cc, rfl, hvc, b⟩
  obtain ⟨rfl, rfl⟩ : v = ⟨0, 0, .empty⟩ ∧ cc = 3 := by simpa using hvc
  replace V := V.keeps b
  replace k0 := bnext k0 b
  clear b C hvc
  have x1 := balloc (b0 w8) (.cells #[.int .i64 0, .int .i64 0, .string .empty] 23)
  replace V := V.keeps x1
  replace k0 := bnext k0 x1
  clear x1
  simp only
  go_wp2_with fail
  have C := parseV_any ⟨#[45, 48]⟩ (by decide) _ (T.stays k0)
  rw [show (⟨#[45, 48]⟩ : ByteArray).data.toList = [45, 48] from rfl, ps00] at C
  refine C.mono ?_
  rintro e w9 ⟨v, cc, rfl, hvc, b⟩
  obtain ⟨rfl, rfl⟩ : v = ⟨0, 0, .empty⟩ ∧ cc = 3 := by simpa using hvc
  replace V := V.keeps b
  replace k0 := bnext k0 b
  clear b C hvc
  have x1 := balloc (b0 w9) (.cells #[.int .i64 0, .int .i64 0, .string .empty] 23)
  replace V := V.keeps x1
  replace k0 := bnext k0 x1
  clear x1
  have V0 := Lib.hid V
  obtain ⟨c0, c1, c2⟩ := V
  simp only
  go_wp2_with fail
  have C := check_any 1 2 ⟨#[]⟩ (by decide) (w9.alloc (.cells #[.int .i64 0, .int .i64 0, .string .empty] 23))
  rw [ck_two] at C
  refine C.mono ?_
  rintro e w10 ⟨rfl, b⟩
  have V := V0.out.keeps b
  replace k0 := bnext k0 b
  clear b C V0 c0 c1 c2
  have V0 := Lib.hid V
  obtain ⟨c0, c1, c2⟩ := V
  go_wp2_with fail
  have C := formatV_any 1 2 ⟨#[]⟩ (by decide) w10 (T.stays k0)
  rw [fm_no ok_two] at C
  refine C.mono ?_
  rintro e w11 ⟨rfl, b⟩
  have V := V0.out.keeps b
  replace k0 := bnext k0 b
  clear b C V0 c0 c1 c2
  obtain ⟨c0, c1, c2⟩ := V
  go_wp2_with fail
  have C := appendV_any none 0 0 [] 1 2 ⟨#[]⟩ (by decide) w11 (li_nil _) (by decide) 0 (by rw [enc_no ok_two]; rfl)
  refine C.mono ?_
  rintro e w12 ⟨a, c, rfl, _, b⟩
  replace k0 := bnext k0 b
  clear b C c0 c1 c2
  go_wp2_with fail
  have V := (Vx.new w12 2 5 ⟨#[]⟩ 23).past (.cells #[.int .i64 3, .int .i64 0, .string ⟨#[]⟩] 23)
  replace k0 := k0.alloc k0.size (.cells #[.int .i64 2, .int .i64 5, .string ⟨#[]⟩] 23)
  replace k0 := k0.alloc k0.size (.cells #[.int .i64 3, .int .i64 0, .string ⟨#[]⟩] 23)
  have C := compare_any 2 5 ⟨#[]⟩ 3 0 ⟨#[]⟩ ((w12.alloc (.cells #[.int .i64 2, .int .i64 5, .string ⟨#[]⟩] 23)).alloc (.cells #[.int .i64 3, .int .i64 0, .string ⟨#[]⟩] 23))
  rw [cv1] at C
  refine C.mono ?_
  rintro e w13 ⟨rfl, b⟩
  replace V := V.keeps b
  replace k0 := bnext k0 b
  clear b C
  go_wp2_with fail
  have C := compare_any 4 0 ⟨#[97]⟩ 4 0 ⟨#[97, 98]⟩ w13
  rw [cv2] at C
  refine C.mono ?_
  rintro e w14 ⟨rfl, b⟩
  replace V := V.keeps b
  replace k0 := bnext k0 b
  clear b C
  go_wp2_with fail
  have C := has_any 0 0 ⟨#[]⟩ (by decide) 1 none 0 0 ⟨#[]⟩ w14
  rw [hs1] at C
  refine C.mono ?_
  rintro e w15 ⟨rfl, b⟩
  replace V := V.keeps b
  replace k0 := bnext k0 b
  clear b C
  obtain ⟨c0, c1, c2⟩ := V
  go_wp2_with fail
  have C := has_any 2 5 ⟨#[]⟩ (by decide) 3 none 0 0 ⟨#[]⟩ w15
  rw [hs2] at C
  refine C.mono ?_
  rintro e w16 ⟨rfl, b⟩
  replace k0 := bnext k0 b
  clear b C
  go_wp2_with fail
  go_ret
  exact ⟨rfl, k0⟩
end Go.Proofs.YtnkdclodmeaihaaGreatDoor

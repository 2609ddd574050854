/-
  example: the chapter's examples; Expressions, types, tables, features and catalogs that came in; Types, tables, features and catalogs that came in; values of the call's arguments; From a walk of a statement to its row and its card: what the listed variables hold; how values come in.
-/
import Derived.Lib.SmallJoins
import Derived.Deep.Slices
import Derived.SizedLaws
import Derived.ChangeMaps5
import Derived.ProofKit
import Derived.LaidMore
import Derived.OpenShut
import Derived.Stop.Joined
import Derived.Stop.LaidErr
import Derived.SevenTiedAt
import Derived.Lib.LaidTab
import Derived.Carry
import Derived.Test.YtbahfelnbofjjaaGreatDoorCards
import Derived.Test.YtbahfelnbofjjaaGreatDoorE13
import Derived.Test.YtbahfelnbofjjaaGreatDoorRows
import Derived.Test.YtbahfelnbofjjaaGreatDoorTie
namespace Go.Proofs.YtbahfelnbofjjaaGreatDoor.ch
open Go.RowKit dec

set_option maxRecDepth 100000 in
set_option maxHeartbeats 2000000 in
theorem example_any (w : World) (T : Tabq w) : Calls Tryz.prog 12 #[] w (Bl true w) := by
  have HT := Lib.hid T
  clear T
  have CN := Lib.hid (fun (n : ByteArray) (w : World) => name_x n w)
  go_enter Tryz.func12, Tryz.ntmps12
  go_wp2_with fail
  refine (CN.out _ _).mono ?_
  rintro e w1 ⟨ca, rfl, X1, b1⟩
  have XA := Lib.hid X1
  have B := Lib.hid b1
  replace HT := Lib.hid (HT.out.stays b1)
  clear X1 b1
  go_wp2_with fail
  refine (CN.out _ _).mono ?_
  rintro e w2 ⟨cb, rfl, X2, b2⟩
  have XB := Lib.hid X2
  replace XA := Lib.hid (XA.out.keeps b2)
  replace B := Lib.hid (bnext B.out b2)
  replace HT := Lib.hid (HT.out.stays b2)
  clear X2 b2
  go_wp2_with fail
  refine (CN.out _ _).mono ?_
  rintro e w3 ⟨cc, rfl, X3, b3⟩
  have XC := Lib.hid X3
  replace XA := Lib.hid (XA.out.keeps b3)
  replace XB := Lib.hid (XB.out.keeps b3)
  replace B := Lib.hid (bnext B.out b3)
  replace HT := Lib.hid (HT.out.stays b3)
  clear X3 b3 CN
  go_upto_region 2 with (first
    | (refine arm_storeE (.tmp 1) (.tmp 18) rfl rfl _ _ _ _ _ rfl rfl XA.out (((Blk.new _ _ _).past _).past _) rfl ?_; intro w4 L1 M1)
    | (refine arm_storeE (.tmp 2) (.tmp 19) rfl rfl _ _ _ _ _ rfl rfl XB.out (Blk.st ((bw_new _ _ _ _ (sz_al _ _).symm).past _) M1 (by omega)) rfl ?_; intro w5 L2 M2)
    | (refine arm_storeE (.tmp 3) (.tmp 20) rfl rfl _ _ _ _ _ rfl rfl XC.out (Blk.st (Blk.st (bw_new _ _ _ _ (by rw [sz_al, sz_al])) M1 (by omega)) M2 (by omega)) rfl ?_; intro w6 L3 M3))
  have b6 := ((balloc (balloc (balloc (b0 w3) _) _) _).trans (M1.below (Nat.le_refl _))).trans ((M2.below (Nat.le_succ _)).trans (M3.below (by omega)))
  have GA := Lib.hid (Blk.st (Blk.st L1 M2 (by omega)) M3 (by omega))
  have GB := Lib.hid (Blk.st L2 M3 (by omega))
  have GC := Lib.hid L3
  replace XA := Lib.hid (XA.out.keeps b6)
  replace XB := Lib.hid (XB.out.keeps b6)
  replace XC := Lib.hid (XC.out.keeps b6)
  replace B := Lib.hid (bnext B.out b6)
  replace HT := Lib.hid (HT.out.stays b6)
  clear L1 L2 L3 M1 M2 M3 b6
  generalize w3.heap.size + 1 + 1 = gc at *
  generalize w3.heap.size + 1 = gb at *
  generalize w3.heap.size = ga at *
  go_upto_region 3 with fail
  have U := Lib.hid (Blk.new w6 82 #[.string ⟨#[101, 117, 114]⟩, .int .i64 1])
  have b7 := balloc (b0 w6) (.cells #[.string ⟨#[101, 117, 114]⟩, .int .i64 1] 82)
  replace GA := Lib.hid (GA.out.keeps b7)
  replace GB := Lib.hid (GB.out.keeps b7)
  replace GC := Lib.hid (GC.out.keeps b7)
  replace XA := Lib.hid (XA.out.keeps b7)
  replace XB := Lib.hid (XB.out.keeps b7)
  replace XC := Lib.hid (XC.out.keeps b7)
  replace B := Lib.hid (bnext B.out b7)
  replace HT := Lib.hid (HT.out.stays b7)
  clear b7
  obtain ⟨w7, hw⟩ : ∃ w7, w7 = w6.alloc (.cells #[.string ⟨#[101, 117, 114]⟩, .int .i64 1] 82) := ⟨_, rfl⟩
  rw [← hw] at U GA GB GC XA XB XC B HT
  refine wp_world w7 hw ?_
  clear hw
  generalize w6.heap.size = gu at *
  go_upto_region 4 with fail
  have K := Lib.hid (Blk.new w7 29 (exC coiX.h 0 (some ⟨gu, 0, none⟩) 1 none 0))
  have b8 := balloc (b0 w7) (.cells (exC coiX.h 0 (some ⟨gu, 0, none⟩) 1 none 0) 29)
  have XK := Lib.hid (show ExV _ (exC coiX.h 0 (some ⟨gu, 0, none⟩) 1 none 0) coiX from ⟨some ⟨gu, 0, none⟩, 1, none, 0, rfl, sl_one (U.out.keeps b8), Fs.nil _⟩)
  replace GA := Lib.hid (GA.out.keeps b8)
  replace GB := Lib.hid (GB.out.keeps b8)
  replace GC := Lib.hid (GC.out.keeps b8)
  replace XA := Lib.hid (XA.out.keeps b8)
  replace XB := Lib.hid (XB.out.keeps b8)
  replace XC := Lib.hid (XC.out.keeps b8)
  replace B := Lib.hid (bnext B.out b8)
  replace HT := Lib.hid (HT.out.stays b8)
  replace U := Lib.hid (U.out.keeps b8)
  clear b8
  obtain ⟨w8, hw⟩ : ∃ w8, w8 = w7.alloc (.cells (exC coiX.h 0 (some ⟨gu, 0, none⟩) 1 none 0) 29) := ⟨_, rfl⟩
  rw [← hw] at U GA GB GC XA XB XC B HT K XK
  refine wp_world w8 hw ?_
  clear hw
  generalize exC coiX.h 0 (some ⟨gu, 0, none⟩) 1 none 0 = ck at *
  generalize w7.heap.size = gk at *
  have C1 := Lib.hid (fun (op : ByteArray) (x : Ex) (cs : Array Value) (w : World) (hx : ExV w cs x) => one_x op x cs w hx)
  have C2 := Lib.hid (fun (op : ByteArray) (x y : Ex) (cs ds : Array Value) (w : World) (hx : ExV w cs x) (hy : ExV w ds y) => two_x op x y cs ds w hx hy)
  go_cut [65] from 5 (fun v65 wx => v65 = .bool false ∧ Hid (Below w8.heap.size w8 wx))
  case first =>
    refine wp_region_held_drew (S := fun w' => Below w8.heap.size w8 w') (by kernel_rfl) (b0 w8).drew (fun hH => ?_)
    refine held_take (i := 0) (d := 26) (v := .agg ca) rfl (by kernel_rfl) (by kernel_rfl) (by kernel_rfl) rfl (fun _ _ _ h => h) rfl hH (fun w' hS => yield_load infX Tryz.underlying29 rfl (.tmp 1) rfl _ _ _ rfl (GA.out.keeps hS) XA.out.size) ?_
    simp only [List.set_cons_zero, List.set_cons_succ]
    refine held_take (i := 1) (d := 27) (v := .agg cb) rfl (by kernel_rfl) (by kernel_rfl) (by kernel_rfl) rfl (fun _ _ _ h => h) rfl hH (fun w' hS => yield_load infX Tryz.underlying29 rfl (.tmp 2) rfl _ _ _ rfl (GB.out.keeps hS) XB.out.size) ?_
    simp only [List.set_cons_zero, List.set_cons_succ]
    refine held_take (i := 2) (d := 28) (v := .agg ck) rfl (by kernel_rfl) (by kernel_rfl) (by kernel_rfl) rfl (fun _ _ _ h => h) rfl hH (fun w' hS => yield_load infX Tryz.underlying29 rfl (.tmp 5) rfl _ _ _ rfl (K.out.keeps hS) XK.out.size) ?_
    simp only [List.set_cons_zero, List.set_cons_succ]
    generalize w8.drew = y0 at *
    refine held_only (i := 3) rfl (by kernel_rfl) rfl (fun K hK => ?_)
    go_simp
    refine (C2.out ⟨#[42]⟩ (feaX ⟨#[98]⟩) coiX cb ck _ (XB.out.keeps hH) (XK.out.keeps hH)).mono ?_
    rintro e y1 ⟨d1, rfl, x1, b1⟩
    refine hK.out _ _ (bnext hH b1) (fun hH => ?_)
    clear hK K
    have D1 := Lib.hid x1
    clear x1 b1
    refine held_only (i := 4) rfl (by kernel_rfl) rfl (fun K hK => ?_)
    go_simp
    refine (C2.out ⟨#[43]⟩ (feaX ⟨#[97]⟩) (binX ⟨#[42]⟩ (feaX ⟨#[98]⟩) coiX) ca d1 _ (XA.out.keeps hH) D1.out).mono ?_
    rintro e y2 ⟨d2, rfl, x2, b2⟩
    refine hK.out _ _ (bnext hH b2) (fun hH => ?_)
    clear hK K
    have D2 := Lib.hid x2
    clear x2 b2
    refine held_only (i := 5) rfl (by kernel_rfl) rfl (fun K hK => ?_)
    go_simp
    refine (prints_x _ _ _ _ D2.out s1 z1 e1 x1 (HT.out.stays hH)).mono ?_
    rintro e y3 ⟨rfl, b3⟩
    refine hK.out _ _ (bnext hH b3) (fun hH => ?_)
    clear hK K
    clear b3
    refine held_take (i := 6) (d := 32) (v := ?_) rfl (by kernel_rfl) (by kernel_rfl) (by kernel_rfl) rfl (fun _ _ _ h => h) rfl hH (fun w' hS => ?_) ?_
    rotate_left
    · go_simp; first | done | with_reducible rfl
    simp only [List.set_cons_zero, List.set_cons_succ]
    refine held_take (i := 7) (d := 33) (v := ?_) rfl (by kernel_rfl) (by kernel_rfl) (by kernel_rfl) rfl (fun _ _ _ h => h) rfl hH (fun w' hS => ?_) ?_
    rotate_left
    · go_simp; first | done | with_reducible rfl
    simp only [List.set_cons_zero, List.set_cons_succ]
    refine held_take (i := 8) (d := 34) (v := .agg ca) rfl (by kernel_rfl) (by kernel_rfl) (by kernel_rfl) rfl (fun _ _ _ h => h) rfl hH (fun w' hS => yield_load infX Tryz.underlying29 rfl (.tmp 1) rfl _ _ _ rfl (GA.out.keeps hS) XA.out.size) ?_
    simp only [List.set_cons_zero, List.set_cons_succ]
    refine held_take (i := 9) (d := 35) (v := .agg cb) rfl (by kernel_rfl) (by kernel_rfl) (by kernel_rfl) rfl (fun _ _ _ h => h) rfl hH (fun w' hS => yield_load infX Tryz.underlying29 rfl (.tmp 2) rfl _ _ _ rfl (GB.out.keeps hS) XB.out.size) ?_
    simp only [List.set_cons_zero, List.set_cons_succ]
    refine held_take (i := 11) (d := 37) (v := .agg cc) rfl (by kernel_rfl) (by kernel_rfl) (by kernel_rfl) rfl (fun _ _ _ h => h) rfl hH (fun w' hS => yield_load infX Tryz.underlying29 rfl (.tmp 3) rfl _ _ _ rfl (GC.out.keeps hS) XC.out.size) ?_
    simp only [List.set_cons_zero, List.set_cons_succ]
    refine held_only (i := 10) rfl (by kernel_rfl) rfl (fun K hK => ?_)
    go_simp
    refine (C2.out ⟨#[43]⟩ (feaX ⟨#[97]⟩) (feaX ⟨#[98]⟩) ca cb _ (XA.out.keeps hH) (XB.out.keeps hH)).mono ?_
    rintro e y4 ⟨d4, rfl, x4, b4⟩
    refine hK.out _ _ (bnext hH b4) (fun hH => ?_)
    clear hK K
    have D4 := Lib.hid x4
    clear x4 b4
    refine held_only (i := 12) rfl (by kernel_rfl) rfl (fun K hK => ?_)
    go_simp
    refine (C2.out ⟨#[42]⟩ (binX ⟨#[43]⟩ (feaX ⟨#[97]⟩) (feaX ⟨#[98]⟩)) (feaX ⟨#[99]⟩) d4 cc _ D4.out (XC.out.keeps hH)).mono ?_
    rintro e y5 ⟨d5, rfl, x5, b5⟩
    refine hK.out _ _ (bnext hH b5) (fun hH => ?_)
    clear hK K
    have D5 := Lib.hid x5
    clear x5 b5
    refine held_only (i := 13) rfl (by kernel_rfl) rfl (fun K hK => ?_)
    go_simp
    refine (prints_x _ _ _ _ D5.out s2 z2 e2 x2 (HT.out.stays hH)).mono ?_
    rintro e y6 ⟨rfl, b6⟩
    refine hK.out _ _ (bnext hH b6) (fun hH => ?_)
    clear hK K
    clear b6
    refine held_take (i := 14) (d := 40) (v := ?_) rfl (by kernel_rfl) (by kernel_rfl) (by kernel_rfl) rfl (fun _ _ _ h => h) rfl hH (fun w' hS => ?_) ?_
    rotate_left
    · go_simp; first | done | with_reducible rfl
    simp only [List.set_cons_zero, List.set_cons_succ]
    refine held_take (i := 15) (d := 41) (v := ?_) rfl (by kernel_rfl) (by kernel_rfl) (by kernel_rfl) rfl (fun _ _ _ h => h) rfl hH (fun w' hS => ?_) ?_
    rotate_left
    · go_simp; first | done | with_reducible rfl
    simp only [List.set_cons_zero, List.set_cons_succ]
    refine held_take (i := 16) (d := 42) (v := ?_) rfl (by kernel_rfl) (by kernel_rfl) (by kernel_rfl) rfl (fun _ _ _ h => h) rfl hH (fun w' hS => ?_) ?_
    rotate_left
    · go_simp; first | done | with_reducible rfl
    simp only [List.set_cons_zero, List.set_cons_succ]
    refine held_take (i := 17) (d := 43) (v := .agg ca) rfl (by kernel_rfl) (by kernel_rfl) (by kernel_rfl) rfl (fun _ _ _ h => h) rfl hH (fun w' hS => yield_load infX Tryz.underlying29 rfl (.tmp 1) rfl _ _ _ rfl (GA.out.keeps hS) XA.out.size) ?_
    simp only [List.set_cons_zero, List.set_cons_succ]
    refine held_only (i := 18) rfl (by kernel_rfl) rfl (fun K hK => ?_)
    go_simp
    refine (C1.out ⟨#[45]⟩ (feaX ⟨#[97]⟩) ca _ (XA.out.keeps hH)).mono ?_
    rintro e y7 ⟨d7, rfl, x7, b7⟩
    refine hK.out _ _ (bnext hH b7) (fun hH => ?_)
    clear hK K
    have D7 := Lib.hid x7
    clear x7 b7
    refine held_only (i := 19) rfl (by kernel_rfl) rfl (fun K hK => ?_)
    go_simp
    refine (C1.out ⟨#[45]⟩ (oneX ⟨#[45]⟩ (feaX ⟨#[97]⟩)) d7 _ D7.out).mono ?_
    rintro e y8 ⟨d8, rfl, x8, b8⟩
    refine hK.out _ _ (bnext hH b8) (fun hH => ?_)
    clear hK K
    have D8 := Lib.hid x8
    clear x8 b8
    refine held_only (i := 20) rfl (by kernel_rfl) rfl (fun K hK => ?_)
    go_simp
    refine (prints_x _ _ _ _ D8.out s3 z3 e3 x3 (HT.out.stays hH)).mono ?_
    rintro e y9 ⟨rfl, b9⟩
    refine hK.out _ _ (bnext hH b9) (fun hH => ?_)
    clear hK K
    clear b9
    refine held_take (i := 21) (d := 47) (v := ?_) rfl (by kernel_rfl) (by kernel_rfl) (by kernel_rfl) rfl (fun _ _ _ h => h) rfl hH (fun w' hS => ?_) ?_
    rotate_left
    · go_simp; first | done | with_reducible rfl
    simp only [List.set_cons_zero, List.set_cons_succ]
    refine held_take (i := 22) (d := 48) (v := ?_) rfl (by kernel_rfl) (by kernel_rfl) (by kernel_rfl) rfl (fun _ _ _ h => h) rfl hH (fun w' hS => ?_) ?_
    rotate_left
    · go_simp; first | done | with_reducible rfl
    simp only [List.set_cons_zero, List.set_cons_succ]
    refine held_take (i := 23) (d := 49) (v := ?_) rfl (by kernel_rfl) (by kernel_rfl) (by kernel_rfl) rfl (fun _ _ _ h => h) rfl hH (fun w' hS => ?_) ?_
    rotate_left
    · go_simp; first | done | with_reducible rfl
    simp only [List.set_cons_zero, List.set_cons_succ]
    refine held_take (i := 24) (d := 50) (v := .agg ca) rfl (by kernel_rfl) (by kernel_rfl) (by kernel_rfl) rfl (fun _ _ _ h => h) rfl hH (fun w' hS => yield_load infX Tryz.underlying29 rfl (.tmp 1) rfl _ _ _ rfl (GA.out.keeps hS) XA.out.size) ?_
    simp only [List.set_cons_zero, List.set_cons_succ]
    refine held_take (i := 25) (d := 51) (v := .agg cb) rfl (by kernel_rfl) (by kernel_rfl) (by kernel_rfl) rfl (fun _ _ _ h => h) rfl hH (fun w' hS => yield_load infX Tryz.underlying29 rfl (.tmp 2) rfl _ _ _ rfl (GB.out.keeps hS) XB.out.size) ?_
    simp only [List.set_cons_zero, List.set_cons_succ]
    refine held_take (i := 26) (d := 52) (v := .agg cc) rfl (by kernel_rfl) (by kernel_rfl) (by kernel_rfl) rfl (fun _ _ _ h => h) rfl hH (fun w' hS => yield_load infX Tryz.underlying29 rfl (.tmp 3) rfl _ _ _ rfl (GC.out.keeps hS) XC.out.size) ?_
    simp only [List.set_cons_zero, List.set_cons_succ]
    refine held_only (i := 27) rfl (by kernel_rfl) rfl (fun K hK => ?_)
    go_simp
    refine (C2.out ⟨#[45]⟩ (feaX ⟨#[98]⟩) (feaX ⟨#[99]⟩) cb cc _ (XB.out.keeps hH) (XC.out.keeps hH)).mono ?_
    rintro e y10 ⟨d10, rfl, x10, b10⟩
    refine hK.out _ _ (bnext hH b10) (fun hH => ?_)
    clear hK K
    have D10 := Lib.hid x10
    clear x10 b10
    refine held_only (i := 28) rfl (by kernel_rfl) rfl (fun K hK => ?_)
    go_simp
    refine (C2.out ⟨#[45]⟩ (feaX ⟨#[97]⟩) (binX ⟨#[45]⟩ (feaX ⟨#[98]⟩) (feaX ⟨#[99]⟩)) ca d10 _ (XA.out.keeps hH) D10.out).mono ?_
    rintro e y11 ⟨d11, rfl, x11, b11⟩
    refine hK.out _ _ (bnext hH b11) (fun hH => ?_)
    clear hK K
    have D11 := Lib.hid x11
    clear x11 b11
    refine held_only (i := 29) rfl (by kernel_rfl) rfl (fun K hK => ?_)
    go_simp
    refine (prints_x _ _ _ _ D11.out s4 z4 e4 x4 (HT.out.stays hH)).mono ?_
    rintro e y12 ⟨rfl, b12⟩
    refine hK.out _ _ (bnext hH b12) (fun hH => ?_)
    clear hK K
    clear b12
    refine held_take (i := 30) (d := 56) (v := ?_) rfl (by kernel_rfl) (by kernel_rfl) (by kernel_rfl) rfl (fun _ _ _ h => h) rfl hH (fun w' hS => ?_) ?_
    rotate_left
    · go_simp; first | done | with_reducible rfl
    simp only [List.set_cons_zero, List.set_cons_succ]
    refine held_take (i := 31) (d := 57) (v := ?_) rfl (by kernel_rfl) (by kernel_rfl) (by kernel_rfl) rfl (fun _ _ _ h => h) rfl hH (fun w' hS => ?_) ?_
    rotate_left
    · go_simp; first | done | with_reducible rfl
    simp only [List.set_cons_zero, List.set_cons_succ]
    refine held_take (i := 32) (d := 58) (v := ?_) rfl (by kernel_rfl) (by kernel_rfl) (by kernel_rfl) rfl (fun _ _ _ h => h) rfl hH (fun w' hS => ?_) ?_
    rotate_left
    · go_simp; first | done | with_reducible rfl
    simp only [List.set_cons_zero, List.set_cons_succ]
    refine held_take (i := 33) (d := 59) (v := .agg ca) rfl (by kernel_rfl) (by kernel_rfl) (by kernel_rfl) rfl (fun _ _ _ h => h) rfl hH (fun w' hS => yield_load infX Tryz.underlying29 rfl (.tmp 1) rfl _ _ _ rfl (GA.out.keeps hS) XA.out.size) ?_
    simp only [List.set_cons_zero, List.set_cons_succ]
    refine held_take (i := 34) (d := 60) (v := .agg cb) rfl (by kernel_rfl) (by kernel_rfl) (by kernel_rfl) rfl (fun _ _ _ h => h) rfl hH (fun w' hS => yield_load infX Tryz.underlying29 rfl (.tmp 2) rfl _ _ _ rfl (GB.out.keeps hS) XB.out.size) ?_
    simp only [List.set_cons_zero, List.set_cons_succ]
    refine held_only (i := 35) rfl (by kernel_rfl) rfl (fun K hK => ?_)
    go_simp
    refine (C2.out ⟨#[61, 61]⟩ (feaX ⟨#[97]⟩) (feaX ⟨#[98]⟩) ca cb _ (XA.out.keeps hH) (XB.out.keeps hH)).mono ?_
    rintro e y13 ⟨d13, rfl, x13, b13⟩
    refine hK.out _ _ (bnext hH b13) (fun hH => ?_)
    clear hK K
    have D13 := Lib.hid x13
    clear x13 b13
    refine held_only (i := 36) rfl (by kernel_rfl) rfl (fun K hK => ?_)
    go_simp
    refine (C1.out ⟨#[110, 111, 116]⟩ (binX ⟨#[61, 61]⟩ (feaX ⟨#[97]⟩) (feaX ⟨#[98]⟩)) d13 _ D13.out).mono ?_
    rintro e y14 ⟨d14, rfl, x14, b14⟩
    refine hK.out _ _ (bnext hH b14) (fun hH => ?_)
    clear hK K
    have D14 := Lib.hid x14
    clear x14 b14
    refine held_only (i := 37) rfl (by kernel_rfl) rfl (fun K hK => ?_)
    go_simp
    refine (prints_x _ _ _ _ D14.out s5 z5 e5 x5 (HT.out.stays hH)).mono ?_
    rintro e y15 ⟨rfl, b15⟩
    refine hK.out _ _ (bnext hH b15) (fun hH => ?_)
    clear hK K
    clear b15
    refine held_take (i := 38) (d := 64) (v := ?_) rfl (by kernel_rfl) (by kernel_rfl) (by kernel_rfl) rfl (fun _ _ _ h => h) rfl hH (fun w' hS => ?_) ?_
    rotate_left
    · go_simp; first | done | with_reducible rfl
    simp only [List.set_cons_zero, List.set_cons_succ]
    refine held_take (i := 39) (d := 65) (v := ?_) rfl (by kernel_rfl) (by kernel_rfl) (by kernel_rfl) rfl (fun _ _ _ h => h) rfl hH (fun w' hS => ?_) ?_
    rotate_left
    · go_simp; first | done | with_reducible rfl
    simp only [List.set_cons_zero, List.set_cons_succ]
    refine wpAnyH_done (by kernel_rfl) ?_ _
    go_wp2_with fail
    go_meet
    case rel => exact ⟨rfl, Lib.hid hH⟩
  case rest =>
    obtain ⟨rfl, BW⟩ := hcut
    replace B := Lib.hid (bnext B.out BW.out)
    replace HT := Lib.hid (HT.out.stays BW.out)
    replace GA := Lib.hid (GA.out.keeps BW.out)
    replace GB := Lib.hid (GB.out.keeps BW.out)
    replace GC := Lib.hid (GC.out.keeps BW.out)
    replace U := Lib.hid (U.out.keeps BW.out)
    replace XA := Lib.hid (XA.out.keeps BW.out)
    replace XB := Lib.hid (XB.out.keeps BW.out)
    replace XC := Lib.hid (XC.out.keeps BW.out)
    clear BW XK K C1 C2
    generalize wc = w9 at *
    obtain ⟨ua, uc, aa, ac, e1', EA⟩ := XA.out
    obtain ⟨ub, ud, ab, ad, e2', EB⟩ := XB.out
    obtain ⟨ue, uf, ae, af, e3', EC⟩ := XC.out
    subst e1' e2' e3'
    have HA := Lib.hid EA
    have HB := Lib.hid EB
    have HC := Lib.hid EC
    clear XA XB XC EA EB EC
    unfold exC at *
    go_upto_region 7 with (first
      | (refine arm_loadT infX Tryz.underlying29 rfl (.tmp 1) rfl rfl _ _ _ rfl GA.out rfl ?_)
      | (refine arm_loadT infX Tryz.underlying29 rfl (.tmp 2) rfl rfl _ _ _ rfl GB.out rfl ?_)
      | (refine arm_loadT infX Tryz.underlying29 rfl (.tmp 3) rfl rfl _ _ _ rfl GC.out rfl ?_))
    have b6 := below_two w9 (.cells (c3 ua aa ub ab ue ae uc ac ud ad uf af) 29) (.cells (exC choX.h 3 none 0 (some ⟨w9.heap.size, 0, none⟩) 3) 29)
    have XH := Lib.hid (cho_of (HA.out.keeps b6) (HB.out.keeps b6) (HC.out.keeps b6) ((Blk.new w9 _ _).past _))
    have GH := Lib.hid (bw_new (w9.alloc (.cells (c3 ua aa ub ab ue ae uc ac ud ad uf af) 29)) 29 (exC choX.h 3 none 0 (some ⟨w9.heap.size, 0, none⟩) 3) (w9.heap.size + 1) (sz_al _ _).symm)
    replace B := Lib.hid (bnext B.out b6)
    replace HT := Lib.hid (HT.out.stays b6)
    replace U := Lib.hid (U.out.keeps b6)
    clear b6 GA GB GC HA HB HC
    obtain ⟨wA, hw⟩ : ∃ wA, wA = (w9.alloc (.cells (c3 ua aa ub ab ue ae uc ac ud ad uf af) 29)).alloc (.cells (exC choX.h 3 none 0 (some ⟨w9.heap.size, 0, none⟩) 3) 29) := ⟨_, rfl⟩
    rw [← hw] at U B HT XH GH
    refine wp_world wA hw ?_
    clear hw
    generalize w9.heap.size + 1 = gh at *
    generalize w9.heap.size = gi at *
    go_upto_region 8 with fail
    have b7 := balloc (b0 wA) (.cells (exC zerX.h 0 none 0 none 0) 29)
    have GZ := Lib.hid (Blk.new wA 29 (exC zerX.h 0 none 0 none 0))
    replace GH := Lib.hid (GH.out.keeps b7)
    replace XH := Lib.hid (XH.out.keeps b7)
    replace B := Lib.hid (bnext B.out b7)
    replace HT := Lib.hid (HT.out.stays b7)
    replace U := Lib.hid (U.out.keeps b7)
    clear b7
    obtain ⟨wB, hw⟩ : ∃ wB, wB = wA.alloc (.cells (exC zerX.h 0 none 0 none 0) 29) := ⟨_, rfl⟩
    rw [← hw] at U B HT XH GH GZ
    refine wp_world wB hw ?_
    clear hw
    generalize wA.heap.size = gz at *
    go_upto_region 9 with fail
    have b7 := balloc (b0 wB) (.cells (exC keyX.h 0 none 0 none 0) 29)
    have GY := Lib.hid (Blk.new wB 29 (exC keyX.h 0 none 0 none 0))
    replace GH := Lib.hid (GH.out.keeps b7)
    replace GZ := Lib.hid (GZ.out.keeps b7)
    replace XH := Lib.hid (XH.out.keeps b7)
    replace B := Lib.hid (bnext B.out b7)
    replace HT := Lib.hid (HT.out.stays b7)
    replace U := Lib.hid (U.out.keeps b7)
    clear b7
    obtain ⟨wC, hw⟩ : ∃ wC, wC = wB.alloc (.cells (exC keyX.h 0 none 0 none 0) 29) := ⟨_, rfl⟩
    rw [← hw] at U B HT XH GH GZ GY
    refine wp_world wC hw ?_
    clear hw
    generalize wB.heap.size = gy at *
    unfold exC at GH GZ GY
    go_upto_region 10 with (first
      | (refine arm_loadT infX Tryz.underlying29 rfl (.tmp 6) rfl rfl _ _ _ rfl GH.out rfl ?_)
      | (refine arm_loadT infX Tryz.underlying29 rfl (.tmp 7) rfl rfl _ _ _ rfl GZ.out rfl ?_)
      | (refine arm_loadT infX Tryz.underlying29 rfl (.tmp 8) rfl rfl _ _ _ rfl GY.out rfl ?_))
    have b9 := balloc (b0 wC) (.cells (d2 gi) 29)
    have XD := dfl_of (XH.out.keeps b9) (Blk.new wC 29 (d2 gi))
    have C := Lib.hid (prints_x dflX _ _ _ XD s6 z6 e6 x6 (HT.out.stays b9))
    have B9 := Lib.hid b9
    clear b9 XD
    refine C.out.mono ?_
    rintro e wD ⟨rfl, bD⟩
    have bb := bnext B9.out bD
    replace B := Lib.hid (bnext B.out bb)
    replace HT := Lib.hid (HT.out.stays bb)
    replace U := Lib.hid (U.out.keeps bb)
    replace GY := Lib.hid (GY.out.keeps bb)
    clear bb bD B9 C GH GZ XH
    have y0 := GY.out.cell 0
    have y1 := GY.out.cell 1
    have y2 := GY.out.cell 2
    have y3 := GY.out.cell 3
    have y4 := GY.out.cell 4
    have y5 := GY.out.cell 5
    have y6 := GY.out.cell 6
    have y7 := GY.out.cell 7
    have y8 := GY.out.cell 8
    have y9 := GY.out.cell 9
    have y10 := GY.out.cell 10
    have y11 := GY.out.cell 11
    simp only [List.getElem?_toArray, List.getElem?_cons_zero, List.getElem?_cons_succ] at y0 y1 y2 y3 y4 y5 y6 y7 y8 y9 y10 y11
    go_upto_region 10 with fail
    clear y0 y1 y2 y3 y4 y5 y6 y7 y8 y9 y10 y11
    have b9 := balloc (b0 wD) (.cells (exC keyX.h 0 none 0 none 0) 29)
    have XD := lok_of (Blk.new wD 29 (exC keyX.h 0 none 0 none 0))
    have C := Lib.hid (prints_x lokX _ _ _ XD s7 z7 e7 x7 (HT.out.stays b9))
    have B9 := Lib.hid b9
    clear b9 XD
    refine C.out.mono ?_
    rintro e wE ⟨rfl, bE⟩
    have bb := bnext B9.out bE
    replace B := Lib.hid (bnext B.out bb)
    replace HT := Lib.hid (HT.out.stays bb)
    replace U := Lib.hid (U.out.keeps bb)
    clear bb bE B9 C GY
    have CT := Lib.hid (fun (w : World) => true_x w)
    have CF := Lib.hid (fun (n : ByteArray) (w : World) => field_x n w)
    go_upto_region 11 with fail
    go_wp2_with fail
    refine (CT.out _).mono ?_
    rintro e wF ⟨ct, rfl, XT, bF⟩
    replace B := Lib.hid (bnext B.out bF)
    replace HT := Lib.hid (HT.out.stays bF)
    replace U := Lib.hid (U.out.keeps bF)
    have HE := Lib.hid XT
    clear bF XT CT
    go_upto_region 12 with (refine arm_storeE (.tmp 9) (.tmp 88) rfl rfl _ _ _ _ _ rfl rfl HE.out (Blk.new _ _ _) rfl ?_; intro wG L1 M1)
    have b7 := (balloc (b0 wF) _).trans (M1.below (Nat.le_refl _))
    have GT := Lib.hid L1
    replace U := Lib.hid (U.out.keeps b7)
    replace HE := Lib.hid (HE.out.keeps b7)
    replace B := Lib.hid (bnext B.out b7)
    replace HT := Lib.hid (HT.out.stays b7)
    clear b7 L1 M1
    generalize wF.heap.size = gt at *
    obtain ⟨ua, uc, aa, ac, e1', ET⟩ := HE.out
    subst e1'
    have XT := Lib.hid ET
    clear ET HE
    unfold exC at GT
    go_upto_region 13 with (refine arm_loadT infX Tryz.underlying29 rfl (.tmp 9) rfl rfl _ _ _ rfl GT.out rfl ?_)
    have b6 := below_two wG (.cells (p2 truX truX ua aa ua aa uc ac uc ac) 29) (.cells (exC cntX.h 2 none 0 (some ⟨wG.heap.size, 0, none⟩) 2) 29)
    have XN := Lib.hid (cnt_of (XT.out.keeps b6) (XT.out.keeps b6) ((Blk.new wG 29 (p2 truX truX ua aa ua aa uc ac uc ac)).past _))
    have GN := Lib.hid (bw_new (wG.alloc (.cells (p2 truX truX ua aa ua aa uc ac uc ac) 29)) 29 (exC cntX.h 2 none 0 (some ⟨wG.heap.size, 0, none⟩) 2) (wG.heap.size + 1) (sz_al _ _).symm)
    replace U := Lib.hid (U.out.keeps b6)
    replace B := Lib.hid (bnext B.out b6)
    replace HT := Lib.hid (HT.out.stays b6)
    clear b6 GT XT
    obtain ⟨wH, hw⟩ : ∃ wH, wH = (wG.alloc (.cells (p2 truX truX ua aa ua aa uc ac uc ac) 29)).alloc (.cells (exC cntX.h 2 none 0 (some ⟨wG.heap.size, 0, none⟩) 2) 29) := ⟨_, rfl⟩
    rw [← hw] at U B HT XN GN
    refine wp_world wH hw ?_
    clear hw
    generalize wG.heap.size + 1 = gn at *
    generalize wG.heap.size = gm at *
    go_wp2_with fail
    refine (CF.out _ _).mono ?_
    rintro e wI ⟨cm, rfl, XM, bI⟩
    replace U := Lib.hid (U.out.keeps bI)
    replace XN := Lib.hid (XN.out.keeps bI)
    replace GN := Lib.hid (GN.out.keeps bI)
    replace B := Lib.hid (bnext B.out bI)
    replace HT := Lib.hid (HT.out.stays bI)
    have HM := Lib.hid XM
    clear XM bI
    go_wp2_with fail
    refine (CF.out _ _).mono ?_
    rintro e wJ ⟨co, rfl, XO, bJ⟩
    replace U := Lib.hid (U.out.keeps bJ)
    replace XN := Lib.hid (XN.out.keeps bJ)
    replace GN := Lib.hid (GN.out.keeps bJ)
    replace HM := Lib.hid (HM.out.keeps bJ)
    replace B := Lib.hid (bnext B.out bJ)
    replace HT := Lib.hid (HT.out.stays bJ)
    have HO := Lib.hid XO
    clear XO bJ
    obtain ⟨ua, uc, aa, ac, e1', EM⟩ := HM.out
    subst e1'
    obtain ⟨ub, ud, ab, ad, e2', EO⟩ := HO.out
    subst e2'
    clear HM HO
    have HM := Lib.hid EM
    have HO := Lib.hid EO
    clear EM EO
    unfold exC
    go_upto_region 14 with fail
    have b6 := below_two wJ (.cells (p2 (fldX ⟨#[109, 115]⟩) (fldX ⟨#[111, 107]⟩) ua aa ub ab uc ac ud ad) 29) (.cells (exC quaX.h 2 none 0 (some ⟨wJ.heap.size, 0, none⟩) 2) 29)
    have XQ := Lib.hid (qua_of (HM.out.keeps b6) (HO.out.keeps b6) ((Blk.new wJ 29 (p2 (fldX ⟨#[109, 115]⟩) (fldX ⟨#[111, 107]⟩) ua aa ub ab uc ac ud ad)).past _))
    have GQ := Lib.hid (bw_new (wJ.alloc (.cells (p2 (fldX ⟨#[109, 115]⟩) (fldX ⟨#[111, 107]⟩) ua aa ub ab uc ac ud ad) 29)) 29 (exC quaX.h 2 none 0 (some ⟨wJ.heap.size, 0, none⟩) 2) (wJ.heap.size + 1) (sz_al _ _).symm)
    replace U := Lib.hid (U.out.keeps b6)
    replace XN := Lib.hid (XN.out.keeps b6)
    replace GN := Lib.hid (GN.out.keeps b6)
    replace B := Lib.hid (bnext B.out b6)
    replace HT := Lib.hid (HT.out.stays b6)
    clear b6 HM HO
    obtain ⟨wK, hw⟩ : ∃ wK, wK = (wJ.alloc (.cells (p2 (fldX ⟨#[109, 115]⟩) (fldX ⟨#[111, 107]⟩) ua aa ub ab uc ac ud ad) 29)).alloc (.cells (exC quaX.h 2 none 0 (some ⟨wJ.heap.size, 0, none⟩) 2) 29) := ⟨_, rfl⟩
    rw [← hw] at U B HT XN GN XQ GQ
    refine wp_world wK hw ?_
    clear hw
    generalize wJ.heap.size + 1 = gq at *
    generalize wJ.heap.size = gp at *
    unfold exC at GN GQ
    go_wp2_with (refine arm_loadT infX Tryz.underlying29 rfl (.tmp 10) rfl rfl _ _ _ rfl GN.out rfl ?_)
    refine (prints_x cntX _ _ _ XN.out s8 z8 e8 x8 HT.out).mono ?_
    rintro e wL ⟨rfl, bL⟩
    replace U := Lib.hid (U.out.keeps bL)
    replace XQ := Lib.hid (XQ.out.keeps bL)
    replace GQ := Lib.hid (GQ.out.keeps bL)
    replace B := Lib.hid (bnext B.out bL)
    replace HT := Lib.hid (HT.out.stays bL)
    clear bL XN GN
    have y0 := GQ.out.cell 0
    have y1 := GQ.out.cell 1
    have y2 := GQ.out.cell 2
    have y3 := GQ.out.cell 3
    have y4 := GQ.out.cell 4
    have y5 := GQ.out.cell 5
    have y6 := GQ.out.cell 6
    have y7 := GQ.out.cell 7
    have y8 := GQ.out.cell 8
    have y9 := GQ.out.cell 9
    have y10 := GQ.out.cell 10
    have y11 := GQ.out.cell 11
    simp only [List.getElem?_toArray, List.getElem?_cons_zero, List.getElem?_cons_succ] at y0 y1 y2 y3 y4 y5 y6 y7 y8 y9 y10 y11
    go_wp2_with fail
    clear y0 y1 y2 y3 y4 y5 y6 y7 y8 y9 y10 y11
    refine (prints_x quaX _ _ _ XQ.out s9 z9 e9 x9 HT.out).mono ?_
    rintro e wM ⟨rfl, bM⟩
    replace U := Lib.hid (U.out.keeps bM)
    replace B := Lib.hid (bnext B.out bM)
    replace HT := Lib.hid (HT.out.stays bM)
    clear bM XQ GQ
    go_upto_region 16 with fail
    have bN := balloc (b0 wM) (.cells (f2 gu) 88)
    have C := Lib.hid (tab1_x (fis_of (sl_one (U.out.keeps bN)) (Blk.new wM 88 (f2 gu))) (HT.out.stays bN))
    have BN := Lib.hid bN
    clear bN U
    go_wp2_with fail
    refine C.out.mono ?_
    rintro e wO ⟨rfl, bO⟩
    have bb := bnext BN.out bO
    replace B := Lib.hid (bnext B.out bb)
    replace HT := Lib.hid (HT.out.stays bb)
    clear bb bO BN C
    go_wp2_with fail
    refine (tab2_x HT.out).mono ?_
    rintro e wP ⟨rfl, bP⟩
    replace B := Lib.hid (bnext B.out bP)
    replace HT := Lib.hid (HT.out.stays bP)
    clear bP
    go_wp2_with fail
    refine (CF.out _ _).mono ?_
    rintro e wQ ⟨cx, rfl, XX, bQ⟩
    replace B := Lib.hid (bnext B.out bQ)
    replace HT := Lib.hid (HT.out.stays bQ)
    have HX := Lib.hid XX
    clear bQ XX CF
    go_wp2_with fail
    refine (bad_x HX.out HT.out).mono ?_
    rintro e wR ⟨rfl, bR⟩
    replace B := Lib.hid (bnext B.out bR)
    replace HT := Lib.hid (HT.out.stays bR)
    clear bR HX
    go_wp2_with fail
    go_ret
    exact ⟨rfl, B.out⟩
end Go.Proofs.YtbahfelnbofjjaaGreatDoor.ch
namespace Go.Proofs.YtbahfelnbofjjaaGreatDoor.ch
open Go.ChangeShapes Go.WideShapes Go.ChangeAt Go.RowKit Go.Joins dec

def K : Nat := 5864062014634
def _root_.Go.Proofs.YtbahfelnbofjjaaGreatDoor.Fo.lns : Fo → Prop
  | .nil => True
  | .cons h ar r => h.un.length ≤ K ∧ ar.lns ∧ r.lns
def _root_.Go.Proofs.YtbahfelnbofjjaaGreatDoor.Ty.ln (t : Ty) : Prop := t.un.length ≤ K
structure _root_.Go.Proofs.YtbahfelnbofjjaaGreatDoor.Ex.lns (x : Ex) : Prop where
  h : x.h.un.length ≤ K
  ar : x.ar.lns
structure Fe.szs (f : Fe) : Prop where
  nm : f.nm.size ≤ 140737488355328
  en : f.en.size ≤ 140737488355328
  of : f.ty.of.size ≤ 140737488355328
  bo : f.bo.szs
  ln : f.bo.lns
theorem cI : Tryz.prog.cellsOf 3 = 1 := by kernel_rfl
theorem cSt : Tryz.prog.cellsOf 9 = 1 := by kernel_rfl
theorem cVa : Tryz.prog.cellsOf 23 = 3 := by kernel_rfl
theorem cWi : Tryz.prog.cellsOf 26 = 2 := by kernel_rfl
theorem cFa : Tryz.prog.cellsOf 82 = 2 := by kernel_rfl
theorem cSfa : Tryz.prog.cellsOf 24 = 1 := by kernel_rfl
theorem cX : Tryz.prog.cellsOf 29 = 12 := by kernel_rfl
theorem cSx : Tryz.prog.cellsOf 27 = 1 := by kernel_rfl
theorem cTy : Tryz.prog.cellsOf 31 = 3 := by kernel_rfl
theorem bFa : Tryz.prog.bytesOf 82 = 24 := by kernel_rfl

instance : Inhabited Ex := ⟨⟨h0, .nil⟩⟩
instance : Inhabited Fi := ⟨⟨.empty, t0⟩⟩
instance : Inhabited Tb := ⟨⟨.empty, .empty, [], 0⟩⟩
instance : Inhabited Fe := ⟨⟨.empty, .empty, t0, ⟨h0, .nil⟩, 0⟩⟩

section
variable {H : Type} {enc : TypeId × Value → H} {w : World} {m : Nat} {y : DataW H × List MemPlace}
/-- What is read of values that came in. -/
abbrev Rd (enc : TypeId × Value → H) (w : World) (m : Nat) (T : TypeId) (cs : List Value) (y : DataW H × List MemPlace) : Prop := DataW.trod enc Tryz.prog w 0 (fun _ => true) true m T cs = some y
/-- Nothing in it is larger than a memory. -/
def Wk (T : TypeId) (d : DataW H) : Prop := ∀ n ∈ d.weights Tryz.prog T, n ≤ 140737488351232
theorem wk_part {T : TypeId} {fs : Array Field} (hu : Tryz.prog.underlying T = some (.struct fs)) {parts : List (DataW H)} (h : Wk T (.agg parts)) {j : Nat} {t : TypeId} {d : DataW H} (ht : (fs.toList.map (·.type))[j]? = some t) (hd : parts[j]? = some d) : Wk t d :=
  fun n hn => h n (by simp only [DataW.weights, hu]; exact DataW.weights_mem_each ht hd n hn)
theorem wk_all {e : TypeId} {n : Nat} : ∀ {l : List (DataW H)} {d : DataW H}, d ∈ l → n ∈ d.weights Tryz.prog e → n ∈ DataW.weightsAll Tryz.prog e l
  | x :: l, d, h, hn => by
    simp only [DataW.weightsAll, List.mem_append]
    rcases List.mem_cons.1 h with rfl | h
    · exact .inl hn
    · exact .inr (wk_all h hn)
theorem wk_slice {T e : TypeId} (hu : Tryz.prog.underlying T = some (.slice e)) {el sp : List (DataW H)} (h : Wk T (.slice el sp)) : (el.length + sp.length) * Tryz.prog.bytesOf e ≤ 140737488351232 ∧ ∀ d ∈ el, Wk e d := by
  refine ⟨h _ (by simp [DataW.weights, hu]), fun d hd n hn => h n ?_⟩
  simp only [DataW.weights, hu, List.mem_cons, List.mem_append]
  exact .inr (.inl (wk_all hd hn))
theorem wk_str {T : TypeId} {s : ByteArray} (h : Wk (H := H) T (.lit (.string s.data.toList))) : s.size ≤ 140737488355328 := by
  have := h s.data.toList.length (by simp [DataW.weights])
  have e : s.data.toList.length = s.size := by rw [Array.length_toList]; rfl
  omega


set_option maxRecDepth 100000 in
theorem rw_of {α : Type} [Inhabited α] {V : World → Array Value → α → Prop} {Q : DataW H → α → Prop} {sz : Nat} {T e : TypeId} (hu : Tryz.prog.underlying T = some (.slice e)) (hc : Tryz.prog.cellsOf e = sz) (h0 : 0 < sz) {c : Value} (h : Rd enc w m T [c] y) (hk : Wk T y.1)
    (E : ∀ k cs z, k < m → Rd enc w k e cs z → Wk e z.1 → ∃ (ds : Array Value) (x : α), cs = ds.toList ∧ ds.size = sz ∧ V w ds x ∧ Q z.1 x) :
    ∃ a n cap l el sp, c = .slice a n cap ∧ Rw sz V w a n cap l ∧ (el.length + sp) * Tryz.prog.bytesOf e ≤ 140737488351232 ∧ el.length = l.length ∧ (∀ j (h1 : j < el.length) (h2 : j < l.length), Q el[j] l[j]) ∧ Rows.uptoBulkAll el ≤ Rows.uptoBulk y.1 := by
  rcases DataW.trod_slice hu h with ⟨hcs, rfl⟩ | ⟨a, n, cap, elems, rest, k, rfl, hcs, rfl, hb, hl, hm, hlen, hel, _, _⟩
  · simp only [List.cons.injEq, and_true] at hcs
    subst hcs
    exact ⟨none, 0, 0, [], [], 0, rfl, .nil _ _ _, by rw [List.length_nil, Nat.zero_add, Nat.zero_mul]; exact Nat.zero_le _, rfl, fun j h1 => absurd h1 (Nat.not_lt_zero _), Nat.zero_le _⟩
  · simp only [List.cons.injEq, and_true] at hcs
    subst hcs
    obtain ⟨hw, hke⟩ := wk_slice hu hk
    have hel2 : ∀ i, i < n → ∃ x : α, ∃ (ds cs' : Array Value), w.cells? 0 (a.add (i * Tryz.prog.cellsOf e)) (Tryz.prog.cellsOf e) = some ds.toList ∧ ds.size = sz ∧ V w ds x ∧ ∀ h : i < elems.length, Q elems[i].1 x := fun i hi => by
      have h1 := hel i hi
      rw [List.getElem?_eq_getElem (by omega)] at h1
      obtain ⟨cs', h2, h3⟩ := Option.bind_eq_some_iff.1 h1
      obtain ⟨ds, x, rfl, h5, h6, h7⟩ := E k cs' _ (Nat.lt_succ_self _) h3 (hke _ (List.mem_map.2 ⟨_, List.getElem_mem _, rfl⟩))
      exact ⟨x, ds, ds, h2, h5, h6, fun _ => h7⟩
    obtain ⟨q, hq⟩ := Go.Deep.choose_lt hel2
    refine ⟨some a, n, cap, (List.range n).map q, elems.map (·.1), (rest.map (·.1)).length, rfl, ⟨?_, by simp, hl, by unfold maxLen at hm; omega, fun h => by cases h⟩, hw, by simp [hlen], fun j h1 h2 => ?_, Nat.le_trans (Nat.le_add_right _ (Rows.uptoBulkAll (rest.map (·.1)))) (Nat.le_succ _)⟩
    · by_cases hn : n = 0
      · exact .inl (by simp [hn])
      obtain ⟨b, off, spot⟩ := a
      have hspot : spot = none := by
        obtain ⟨ds, _, g1, g2, _⟩ := hq 0 (by omega)
        rw [hc] at g1
        obtain ⟨_, _, g3⟩ := World.cells?_some g1
        have g4 := g3 0 h0
        rw [List.getElem?_eq_getElem (by rw [Array.length_toList]; omega)] at g4
        have := World.cell?_spot g4
        simpa [Addr.add] using this
      subst hspot
      refine .inr ⟨b, off, rfl, fun j hj => ?_⟩
      have hj' : j < n := by simpa using hj
      obtain ⟨ds, _, g1, g2, g3, _⟩ := hq j hj'
      refine ⟨ds, g2, fun i v hv => ?_, by simpa using g3⟩
      rw [hc] at g1
      obtain ⟨_, g4, g5⟩ := World.cells?_some g1
      have hi : i < ds.toList.length := (List.getElem?_eq_some_iff.1 hv).1
      have := g5 i (by omega)
      rw [Go.Addr.add_mid, Go.Addr.add_mid] at this
      rw [this, hv]
    · have hj' : j < n := by simpa using h2
      obtain ⟨_, _, _, _, _, g⟩ := hq j hj'
      have := g (by omega)
      simpa using this

/-! Units. -/
def FaV (_ : World) (cs : Array Value) (f : un.Fa) : Prop := cs = #[.string f.1, .int .i64 f.2]
theorem sl_rw {a : Option Addr} {n cap : Nat} {l : List un.Fa} (h : Rw 2 FaV w a n cap l) : un.Sl w a n cap l := by
  refine ⟨h.hat.imp id fun ⟨b, off, e, hA⟩ => ⟨b, off, e, fun j hj => ?_⟩, h.hn, h.hcap, h.hmax, h.hno⟩
  obtain ⟨cs, _, h2, rfl⟩ := hA j hj
  rw [un.gt_eq hj]
  exact ⟨by simpa using h2 0 _ rfl, by simpa [Nat.add_assoc] using h2 1 _ rfl⟩
set_option maxRecDepth 100000 in
theorem fa_of {cs : List Value} (h : Rd enc w m 82 cs y) (hk : Wk 82 y.1) : ∃ (ds : Array Value) (x : un.Fa), cs = ds.toList ∧ ds.size = 2 ∧ FaV w ds x ∧ x.1.size ≤ 140737488355328 := by
  obtain ⟨y0, y1, k, rfl, hl, g0, g1⟩ := trod_struct2 Tryz.underlying82 h
  rw [cFa] at hl
  match cs, hl with
  | [v0, v1], _ =>
    simp only [cSt, cI, List.drop_zero, List.take_succ_cons, List.take_zero, List.drop_succ_cons] at g0 g1
    obtain ⟨n0, e0, d0, _⟩ := DataW.trod_string Tryz.underlying9 g0
    obtain ⟨n1, e1, d1, _⟩ := DataW.trod_int Tryz.underlying3 g1
    simp only [List.cons.injEq, and_true] at e0 e1
    subst e0 e1
    have k0 := wk_part Tryz.underlying82 hk (j := 0) (t := 9) rfl rfl
    rw [d0] at k0
    exact ⟨#[.string n0, .int .i64 n1], (n0, n1), rfl, rfl, rfl, wk_str k0⟩
theorem un_of {c : Value} (h : Rd enc w m 24 [c] y) (hk : Wk 24 y.1) : ∃ a cap l, c = .slice a l.length cap ∧ un.Sl w a l.length cap l ∧ l.length ≤ K ∧ ∀ f ∈ l, f.1.size ≤ 140737488355328 := by
  obtain ⟨a, n, cap, l, el, sp, rfl, S, hz, hl, hq, _⟩ := rw_of (Q := fun _ (x : un.Fa) => x.1.size ≤ 140737488355328) Tryz.underlying24 cFa (by decide) h hk (fun k cs z _ h1 h2 => fa_of h1 h2)
  rw [bFa] at hz
  have hn := S.hn
  refine ⟨a, cap, l, by rw [hn], by have := sl_rw S; rwa [← hn] at this, by unfold K; omega, fun f hf => ?_⟩
  obtain ⟨j, hj, rfl⟩ := List.getElem_of_mem hf
  exact hq j (by omega) hj

/-! Expressions. -/
theorem trod_struct9 {P : Program} {H : Type} {enc : TypeId × Value → H} {w : World} {base : Nat} {spare : Nat → Bool} {held : Bool} {t : TypeId} {f0 f1 f2 f3 f4 f5 f6 f7 f8 : Field} {fuel : Nat} {cs : List Value} {x : DataW H × List MemPlace} (ht : P.underlying t = some (.struct #[f0, f1, f2, f3, f4, f5, f6, f7, f8])) (h : DataW.trod enc P w base spare held fuel t cs = some x) :
    ∃ y0 y1 y2 y3 y4 y5 y6 y7 y8 n, fuel = n + 1 ∧ x.1 = .agg [y0.1, y1.1, y2.1, y3.1, y4.1, y5.1, y6.1, y7.1, y8.1] ∧ cs.length = P.cellsOf t ∧ DataW.trod enc P w base spare held n f0.type ((cs.drop f0.offset).take (P.cellsOf f0.type)) = some y0 ∧ DataW.trod enc P w base spare held n f1.type ((cs.drop f1.offset).take (P.cellsOf f1.type)) = some y1 ∧ DataW.trod enc P w base spare held n f2.type ((cs.drop f2.offset).take (P.cellsOf f2.type)) = some y2 ∧ DataW.trod enc P w base spare held n f3.type ((cs.drop f3.offset).take (P.cellsOf f3.type)) = some y3 ∧ DataW.trod enc P w base spare held n f4.type ((cs.drop f4.offset).take (P.cellsOf f4.type)) = some y4 ∧ DataW.trod enc P w base spare held n f5.type ((cs.drop f5.offset).take (P.cellsOf f5.type)) = some y5 ∧ DataW.trod enc P w base spare held n f6.type ((cs.drop f6.offset).take (P.cellsOf f6.type)) = some y6 ∧ DataW.trod enc P w base spare held n f7.type ((cs.drop f7.offset).take (P.cellsOf f7.type)) = some y7 ∧ DataW.trod enc P w base spare held n f8.type ((cs.drop f8.offset).take (P.cellsOf f8.type)) = some y8 := by
  obtain ⟨xs, n, rfl, rfl, hl, hlen, hf⟩ := DataW.trod_struct ht h
  match xs, hlen with
  | [y0, y1, y2, y3, y4, y5, y6, y7, y8], _ => exact ⟨y0, y1, y2, y3, y4, y5, y6, y7, y8, n, rfl, rfl, hl, by simpa using hf 0 f0 rfl, by simpa using hf 1 f1 rfl, by simpa using hf 2 f2 rfl, by simpa using hf 3 f3 rfl, by simpa using hf 4 f4 rfl, by simpa using hf 5 f5 rfl, by simpa using hf 6 f6 rfl, by simpa using hf 7 f7 rfl, by simpa using hf 8 f8 rfl⟩
def foL : List Ex → Fo
  | [] => .nil
  | x :: l => .cons x.h x.ar (foL l)
theorem foL_len : ∀ l : List Ex, (foL l).len = l.length
  | [] => rfl
  | x :: l => by simp [foL, Fo.len, foL_len l]
theorem foL_nth : ∀ (l : List Ex) (j : Nat) (h : j < l.length), (foL l).nth j = l[j]
  | x :: l, 0, _ => rfl
  | x :: l, j + 1, h => foL_nth l j (by simpa using h)
theorem foL_szs : ∀ l : List Ex, (∀ x ∈ l, x.szs) → (foL l).szs
  | [], _ => trivial
  | x :: l, h => ⟨(h x (List.mem_cons_self ..)).h, (h x (List.mem_cons_self ..)).ar, foL_szs l fun y hy => h y (List.mem_cons_of_mem _ hy)⟩
theorem foL_lns : ∀ l : List Ex, (∀ x ∈ l, x.lns) → (foL l).lns
  | [], _ => trivial
  | x :: l, h => ⟨(h x (List.mem_cons_self ..)).h, (h x (List.mem_cons_self ..)).ar, foL_lns l fun y hy => h y (List.mem_cons_of_mem _ hy)⟩
theorem foL_sz : ∀ (l : List Ex) (el : List (DataW H)), el.length = l.length → (∀ j (h1 : j < el.length) (h2 : j < l.length), l[j].ar.sz + 1 ≤ Rows.uptoBulk el[j]) → (foL l).sz ≤ Rows.uptoBulkAll el
  | [], _, _, _ => Nat.zero_le _
  | x :: l, [], h, _ => by simp at h
  | x :: l, d :: el, h, hq => by
    have h1 := hq 0 (by simp) (by simp)
    have h2 := foL_sz l el (by simpa using h) fun j h1 h2 => by
      have := hq (j + 1) (by simpa using h1) (by simpa using h2)
      simpa using this
    simp only [List.getElem_cons_zero] at h1
    simp only [foL, Fo.sz, Rows.uptoBulkAll]
    omega
theorem fs_rw {a : Option Addr} {n cap : Nat} {l : List Ex} (h : Rw 12 ExV w a n cap l) : Fs w a n cap (foL l) := by
  refine ⟨?_, by rw [foL_len, h.hn], h.hcap, h.hmax, h.hno⟩
  rw [foL_len]
  refine h.hat.imp id fun ⟨b, off, e, hA⟩ => ⟨b, off, e, fo_of b _ off fun j hj => ?_⟩
  rw [foL_len] at hj
  obtain ⟨cs, _, h2, ua, uc, aa, ac, rfl, h4⟩ := hA j hj
  rw [foL_nth _ _ hj]
  exact ⟨ua, uc, aa, ac, h2, h4⟩
/-- What is known of an expression that came in. -/
structure ExQ (d : DataW H) (x : Ex) : Prop where
  sz : x.szs
  ln : x.lns
  bulk : x.ar.sz + 1 ≤ Rows.uptoBulk d
theorem args_of {c : Value} (E : ∀ k cs z, k < m → Rd enc w k 29 cs z → Wk 29 z.1 → ∃ (ds : Array Value) (x : Ex), cs = ds.toList ∧ ds.size = 12 ∧ ExV w ds x ∧ ExQ z.1 x)
    (h : Rd enc w m 27 [c] y) (hk : Wk 27 y.1) : ∃ a cap F, c = .slice a F.len cap ∧ Fs w a F.len cap F ∧ F.szs ∧ F.lns ∧ F.sz ≤ Rows.uptoBulk y.1 := by
  obtain ⟨a, n, cap, l, el, sp, rfl, S, hz, hl, hq, hb⟩ := rw_of (Q := ExQ) Tryz.underlying27 cX (by decide) h hk E
  have hF := fs_rw S
  have hn : (foL l).len = n := hF.hn
  have hm : ∀ x ∈ l, ∃ d : DataW H, ExQ d x := fun x hx => by
    obtain ⟨j, hj, rfl⟩ := List.getElem_of_mem hx
    exact ⟨_, hq j (by omega) hj⟩
  refine ⟨a, cap, foL l, by rw [hn], by rw [hn]; exact hF, foL_szs l fun x hx => ?_, foL_lns l fun x hx => ?_, Nat.le_trans (foL_sz l el hl fun j h1 h2 => (hq j h1 h2).bulk) hb⟩
  · obtain ⟨_, h⟩ := hm x hx
    exact h.sz
  · obtain ⟨_, h⟩ := hm x hx
    exact h.ln
theorem bulk_part {d : DataW H} {l : List (DataW H)} (h : d ∈ l) : Rows.uptoBulk d ≤ Rows.uptoBulkAll l := by
  induction l with
  | nil => cases h
  | cons x r ih =>
    simp only [Rows.uptoBulkAll]
    rcases List.mem_cons.1 h with rfl | e
    · omega
    · have := ih e; omega
set_option maxRecDepth 100000 in
set_option maxHeartbeats 2000000 in
theorem ex_of : ∀ (m : Nat) (cs : List Value) (y : DataW H × List MemPlace), Rd enc w m 29 cs y → Wk 29 y.1 → ∃ (ds : Array Value) (x : Ex), cs = ds.toList ∧ ds.size = 12 ∧ ExV w ds x ∧ ExQ y.1 x := by
  intro m
  induction m using Nat.strongRecOn with
  | _ m IH =>
    intro cs y h hk
    obtain ⟨y0, y1, y2, y3, y4, y5, y6, y7, y8, n, rfl, hy, hl, g0, g1, g2, g3, g4, g5, g6, g7, g8⟩ := trod_struct9 Tryz.underlying29 h
    rw [cX] at hl
    rw [hy] at hk ⊢
    match cs, hl with
    | [c0, c1, c2, c3, c4, c5, c6, c7, c8, c9, c10, c11], _ =>
      simp only [cI, cSt, cVa, cSfa, cWi, cSx, List.drop_zero, List.take_succ_cons, List.take_zero, List.drop_succ_cons] at g0 g1 g2 g3 g4 g5 g6 g7 g8
      obtain ⟨n0, e0, d0, _⟩ := DataW.trod_int Tryz.underlying3 g0
      obtain ⟨n1, e1, d1, _⟩ := DataW.trod_string Tryz.underlying9 g1
      obtain ⟨n2, e2, d2, _⟩ := DataW.trod_string Tryz.underlying9 g2
      obtain ⟨n3, e3, d3, _⟩ := DataW.trod_string Tryz.underlying9 g3
      obtain ⟨p0, p1, p2, _, dv, _, f0, f1, f2⟩ := Go.Deep.trod_struct3 Tryz.underlying23 g4
      simp only [cI, cSt, List.drop_zero, List.take_succ_cons, List.take_zero, List.drop_succ_cons] at f0 f1 f2
      obtain ⟨v0, e4, d4, _⟩ := DataW.trod_int Tryz.underlying3 f0
      obtain ⟨v1, e5, d5, _⟩ := DataW.trod_int Tryz.underlying3 f1
      obtain ⟨v2, e6, d6, _⟩ := DataW.trod_string Tryz.underlying9 f2
      obtain ⟨n6, e8, d8, _⟩ := DataW.trod_int Tryz.underlying3 g6
      obtain ⟨q0, q1, _, dw, _, f3, f4⟩ := trod_struct2 Tryz.underlying26 g7
      simp only [cI, List.drop_zero, List.take_succ_cons, List.take_zero, List.drop_succ_cons] at f3 f4
      obtain ⟨w0, e9, d9, _⟩ := DataW.trod_int Tryz.underlying3 f3
      obtain ⟨w1, e10, d10, _⟩ := DataW.trod_int Tryz.underlying3 f4
      simp only [List.cons.injEq, and_true] at e0 e1 e2 e3 e4 e5 e6 e8 e9 e10
      have k1 := wk_part Tryz.underlying29 hk (j := 1) (t := 9) rfl rfl
      have k2 := wk_part Tryz.underlying29 hk (j := 2) (t := 9) rfl rfl
      have k3 := wk_part Tryz.underlying29 hk (j := 3) (t := 9) rfl rfl
      have k4 := wk_part Tryz.underlying29 hk (j := 4) (t := 23) rfl rfl
      have k5 := wk_part Tryz.underlying29 hk (j := 5) (t := 24) rfl rfl
      have k8 := wk_part Tryz.underlying29 hk (j := 8) (t := 27) rfl rfl
      rw [d1] at k1
      rw [d2] at k2
      rw [d3] at k3
      rw [dv] at k4
      have k6 := wk_part Tryz.underlying23 k4 (j := 2) (t := 9) rfl rfl
      rw [d6] at k6
      obtain ⟨ua, uc, u, rfl, hU, hul, _⟩ := un_of g5 k5
      obtain ⟨aa, ac, F, rfl, hF, hs, hln, hfb⟩ := args_of (fun k cs z hk' h1 h2 => IH k (by omega) cs z h1 h2) g8 k8
      subst e0 e1 e2 e3 e4 e5 e6 e8 e9 e10
      refine ⟨exC ⟨n0, n1, n2, n3, v0, v1, v2, u, n6, w0, w1⟩ F.len ua uc aa ac, ⟨⟨n0, n1, n2, n3, v0, v1, v2, u, n6, w0, w1⟩, F⟩, rfl, rfl, ⟨ua, uc, aa, ac, rfl, hU, hF⟩, ⟨⟨wk_str k1, wk_str k2, wk_str k3, wk_str k6⟩, hs⟩, ⟨hul, hln⟩, ?_⟩
      show F.sz + 1 ≤ _
      have hp : Rows.uptoBulk y8.1 ≤ Rows.uptoBulkAll [y0.1, y1.1, y2.1, y3.1, y4.1, y5.1, y6.1, y7.1, y8.1] := bulk_part (by simp)
      show F.sz + 1 ≤ Rows.uptoBulkAll [y0.1, y1.1, y2.1, y3.1, y4.1, y5.1, y6.1, y7.1, y8.1] + 1
      omega
end
end Go.Proofs.YtbahfelnbofjjaaGreatDoor.ch
namespace Go.Proofs.YtbahfelnbofjjaaGreatDoor.ch
open Go.ChangeShapes Go.WideShapes Go.ChangeAt Go.RowKit Go.Joins dec

section
variable {H : Type} {enc : TypeId × Value → H} {w : World} {m : Nat} {y : DataW H × List MemPlace}
set_option maxRecDepth 100000 in
theorem ty_of {cs : List Value} (h : Rd enc w m 31 cs y) (hk : Wk 31 y.1) : ∃ (ds : Array Value) (t : Ty), cs = ds.toList ∧ ds.size = 3 ∧ TyV w ds t ∧ t.ln ∧ t.of.size ≤ 140737488355328 := by
  obtain ⟨y0, y1, y2, k, rfl, hl, g0, g1, g2⟩ := Go.Deep.trod_struct3 Tryz.underlying31 h
  rw [cTy] at hl
  match cs, hl with
  | [c0, c1, c2], _ =>
    simp only [cSt, cI, cSfa, List.drop_zero, List.take_succ_cons, List.take_zero, List.drop_succ_cons] at g0 g1 g2
    obtain ⟨n0, e0, d0, _⟩ := DataW.trod_int Tryz.underlying3 g0
    obtain ⟨n2, e2, d2, _⟩ := DataW.trod_string Tryz.underlying9 g2
    simp only [List.cons.injEq, and_true] at e0 e2
    have k1 := wk_part Tryz.underlying31 hk (j := 1) (t := 24) rfl rfl
    have k2 := wk_part Tryz.underlying31 hk (j := 2) (t := 9) rfl rfl
    rw [d2] at k2
    obtain ⟨ua, uc, u, rfl, hU, hul, _⟩ := un_of g1 k1
    subst e0 e2
    exact ⟨tyC ⟨n0, u, n2⟩ ua uc, ⟨n0, u, n2⟩, rfl, rfl, ⟨ua, uc, rfl, hU⟩, hul, wk_str k2⟩
variable {H : Type} {enc : TypeId × Value → H} {Z : World} {r : Reach} {b0' : Nat} {v : Value} {d : DataW H} {p : List MemPlace}
set_option maxRecDepth 100000 in
/-- An expression that came in. -/
theorem open_ex (hv : Value.okWide Tryz.prog Z r b0' 29 v) (h : DataW.Trod enc Tryz.prog Z 0 (fun _ => true) true 29 v d p) (hk : Wk 29 d) : ∃ x ua uc aa ac, v = .agg (exC x.h x.ar.len ua uc aa ac) ∧ Ec Z x ua uc aa ac ∧ ExQ d x := by
  obtain ⟨cs, rfl, _⟩ := okWide_struct Tryz.underlying29 hv
  obtain ⟨fuel, hf⟩ := h
  obtain ⟨ds, x, e, _, ⟨ua, uc, aa, ac, rfl, hE⟩, hQ⟩ := ex_of fuel cs.toList (d, p) hf hk
  exact ⟨x, ua, uc, aa, ac, by rw [show cs = _ from Array.toList_inj.1 e], hE, hQ⟩
set_option maxRecDepth 100000 in
theorem open_ty (hv : Value.okWide Tryz.prog Z r b0' 31 v) (h : DataW.Trod enc Tryz.prog Z 0 (fun _ => true) true 31 v d p) (hk : Wk 31 d) : ∃ t ua uc, v = .agg (tyC t ua uc) ∧ un.Sl Z ua t.un.length uc t.un ∧ t.ln ∧ t.of.size ≤ 140737488355328 := by
  obtain ⟨cs, rfl, _⟩ := okWide_struct Tryz.underlying31 hv
  obtain ⟨fuel, hf⟩ := h
  obtain ⟨ds, t, e, _, ⟨ua, uc, rfl, hU⟩, h1, h2⟩ := ty_of (m := fuel) (cs := cs.toList) (y := (d, p)) hf hk
  exact ⟨t, ua, uc, by rw [show cs = _ from Array.toList_inj.1 e], hU, h1, h2⟩
theorem wk_of {ts : List TypeId} {ds : List (DataW H)} (h : (DataW.weightsEach Tryz.prog ts ds).all (· ≤ reachBytes) = true) {j : Nat} {t : TypeId} {d : DataW H} (ht : ts[j]? = some t) (hd : ds[j]? = some d) : Wk t d := fun n hn => by
  have := List.all_eq_true.1 h n (DataW.weights_mem_each ht hd n hn)
  have hb : reachBytes = 140737488351232 := rfl
  simpa [hb] using this
end
end Go.Proofs.YtbahfelnbofjjaaGreatDoor.ch
namespace Go.Proofs.YtbahfelnbofjjaaGreatDoor
open Go.ChangeShapes Go.WideShapes Go.ChangeAt Go.RowKit Go.Joins dec ch

theorem own : ownKnob Tryz.prog.godebug = none := by kernel_rfl
theorem laidOut : laidOutB Tryz.prog = true := by kernel_rfl

section
variable {H : Type} {enc' : TypeId × Value → H} {P : Program}
end

/-- What the rows list. -/
def laid9 : List (String × DataW Unit) := [("math/bits.deBruijn32tab", Rows.laid_math_bits_deBruijn32tab), ("math/bits.deBruijn64tab", Rows.laid_math_bits_deBruijn64tab), ("internal/strconv.uint64pow10", Rows.laid_internal_strconv_uint64pow10), ("strconv.ErrRange", Rows.laid_strconv_ErrRange), ("strconv.ErrSyntax", Rows.laid_strconv_ErrSyntax), ("asof/decimal.powers", Rows.laid_asof_decimal_powers), ("asof/lexer.classes", Rows.laid_asof_lexer_classes), ("asof/printer.windowWords", Rows.laid_asof_printer_windowWords), ("asof/printer.typeWords", Rows.laid_asof_printer_typeWords)]
theorem gTen : Tryz.prog.globalNamed "internal/strconv.uint64pow10" = some 5 := by kernel_rfl
theorem tTen : (Tryz.prog.globals[5]?).map (·.type) = some 269 := by kernel_rfl
theorem tPow : (Tryz.prog.globals[2]?).map (·.type) = some 223 := by kernel_rfl
theorem tSyn : (Tryz.prog.globals[7]?).map (·.type) = some 154 := by kernel_rfl
theorem tRan : (Tryz.prog.globals[8]?).map (·.type) = some 154 := by kernel_rfl
theorem tCls : (Tryz.prog.globals[1]?).map (·.type) = some 213 := by kernel_rfl
theorem cCls : Tryz.prog.cellsOf 213 = 126 := by kernel_rfl
theorem cC1 : Tryz.prog.cellsOf 172 = 1 := by kernel_rfl
theorem dCls : (Rows.laid_asof_lexer_classes : DataW Unit) = Lib.tabData .u8 clsTab := by kernel_rfl
theorem cTen : Tryz.prog.cellsOf 269 = 20 := by kernel_rfl
theorem cPow : Tryz.prog.cellsOf 223 = 7 := by kernel_rfl
theorem cU : Tryz.prog.cellsOf 212 = 1 := by kernel_rfl
theorem cI3 : Tryz.prog.cellsOf 3 = 1 := by kernel_rfl
theorem cS9 : Tryz.prog.cellsOf 9 = 1 := by kernel_rfl
theorem cE : Tryz.prog.cellsOf 296 = 1 := by kernel_rfl
theorem dTen : (Rows.laid_internal_strconv_uint64pow10 : DataW Unit) = Lib.tabData .u64 Lib.pow10Tab := by kernel_rfl
theorem dPow : (Rows.laid_asof_decimal_powers : DataW Unit) = Lib.tabData .i64 powTab := by kernel_rfl
theorem star : "*" ++ "errors.errorString" = "*errors.errorString" := by decide
theorem rowE (u : TypeId) (h : Tryz.prog.typeName? 3 u = some "*errors.errorString") : u = 294 :=
  typeName_ptr_named (nm := "errors.errorString") (by rw [star]; kernel_rfl) (by kernel_rfl) (by decide) u (by rw [star]; exact h)
/-- An array of strings that reads as the listed words holds them, cell for cell. -/
theorem cells_of_str {H : Type} {enc : TypeId × Value → H} {P : Program} {w : World} {base : Nat} {sp : Nat → Bool} {held : Bool} {fuel : Nat} {t e : TypeId} {n : Nat} {cs : List Value} {ss : List ByteArray} {p : List MemPlace}
    (ht : P.underlying t = some (.array n e)) (he : P.underlying e = some .string) (hce : P.cellsOf e = 1) (hct : P.cellsOf t = n)
    (h : DataW.trod enc P w base sp held fuel t cs = some (.agg (ss.map fun s => .lit (.string s.data.toList)), p)) : cs = ss.map fun s => Value.string s := by
  cases fuel with
  | zero => simp [DataW.trod] at h
  | succ fuel =>
    simp only [DataW.trod, ht, hce, hct, Nat.mul_one] at h
    split at h
    · rename_i hl
      obtain ⟨xs, hm, hx⟩ := Option.map_eq_some_iff.1 h
      have hxs : xs.map (·.1) = ss.map fun s => (DataW.lit (.string s.data.toList) : DataW H) := by
        have := congrArg Prod.fst hx
        simpa using this
      have hxl : xs.length = n := by simpa using Lib.mapM_length hm
      have hzl : ss.length = n := by
        have := congrArg List.length hxs
        simp at this
        omega
      apply List.ext_getElem?
      intro i
      by_cases hi : i < n
      · obtain ⟨b, hb, hf⟩ := Lib.mapM_at hm i i (by simp [hi])
        obtain ⟨z, hc, hz, _⟩ := DataW.trod_string he hf
        have h1 : cs[i]? = some (.string z) := by
          have := congrArg (·[0]?) hc
          simpa [List.getElem?_take, List.getElem?_drop] using this
        have h2 : (xs.map (·.1))[i]? = some (DataW.lit (.string z.data.toList) : DataW H) := by simp [hb, hz]
        rw [hxs] at h2
        simp only [List.getElem?_map, Option.map_eq_some_iff, DataW.lit.injEq, Lit.string.injEq] at h2
        obtain ⟨z', hz', e⟩ := h2
        have e2 : z' = z := ByteArray.ext (Array.toList_inj.1 e)
        simp [h1, hz', e2]
      · rw [List.getElem?_eq_none (by omega), List.getElem?_eq_none (by simp; omega)]
    · cases h
theorem strs_of_head {P : Program} {W : World} {name : String} {ss : List ByteArray} {rest : List (String × DataW Unit)} {g : Nat} {t e : TypeId} {n : Nat}
    (hg : P.globalNamed name = some g) (hty : (P.globals[g]?).map (·.type) = some t) (ht : P.underlying t = some (.array n e)) (he : P.underlying e = some .string) (hce : P.cellsOf e = 1) (hct : P.cellsOf t = n)
    (h : laidMet P ((name, .agg (ss.map fun s => .lit (.string s.data.toList))) :: rest) W) (i : Nat) (hi : i < ss.length) : W.cell? ⟨g, i, none⟩ = some (.string (ss.getD i .empty)) := by
  obtain ⟨ps, ⟨g', t', cs, fuel, p, q, hg', ht', hvar, hd, _, _⟩, _⟩ := h
  obtain rfl := Option.some.inj (hg.symm.trans hg')
  obtain rfl := Option.some.inj (hty.symm.trans ht')
  obtain rfl : cs = (ss.map fun s => Value.string s).toArray := by rw [← cells_of_str ht he hce hct hd]
  have := World.var?_cell hg hvar i
  simpa [List.getD, hi] using this
theorem gTyw : Tryz.prog.globalNamed "asof/printer.typeWords" = some 0 := by kernel_rfl
theorem gWiw : Tryz.prog.globalNamed "asof/printer.windowWords" = some 3 := by kernel_rfl
theorem tTyw : (Tryz.prog.globals[0]?).map (·.type) = some 147 := by kernel_rfl
theorem tWiw : (Tryz.prog.globals[3]?).map (·.type) = some 231 := by kernel_rfl
theorem cTyw : Tryz.prog.cellsOf 147 = 6 := by kernel_rfl
theorem cWiw : Tryz.prog.cellsOf 231 = 5 := by kernel_rfl
def tyL : List ByteArray := [.empty, ⟨#[98, 111, 111, 108]⟩, ⟨#[105, 110, 116]⟩, ⟨#[100, 101, 99]⟩, ⟨#[116, 101, 120, 116]⟩, ⟨#[107, 101, 121]⟩]
def wiL : List ByteArray := [.empty, ⟨#[97, 108, 108]⟩, ⟨#[115, 108, 105, 100, 105, 110, 103]⟩, ⟨#[116, 117, 109, 98, 108, 105, 110, 103]⟩, ⟨#[115, 101, 115, 115, 105, 111, 110]⟩]
theorem dTyw : (Rows.laid_asof_printer_typeWords : DataW Unit) = .agg (tyL.map fun s => .lit (.string s.data.toList)) := by kernel_rfl
theorem dWiw : (Rows.laid_asof_printer_windowWords : DataW Unit) = .agg (wiL.map fun s => .lit (.string s.data.toList)) := by kernel_rfl
theorem tyL_at : ∀ j, 1 ≤ j → j < 6 → tyL.getD j .empty = tyWs j
  | 0, h, _ => absurd h (by decide)
  | 1, _, _ => rfl
  | 2, _, _ => rfl
  | 3, _, _ => rfl
  | 4, _, _ => rfl
  | 5, _, _ => rfl
  | j + 6, _, h => absurd h (by omega)
theorem wiL_at : ∀ j, 1 ≤ j → j < 5 → wiL.getD j .empty = wiWs j
  | 0, h, _ => absurd h (by decide)
  | 1, _, _ => rfl
  | 2, _, _ => rfl
  | 3, _, _ => rfl
  | 4, _, _ => rfl
  | j + 5, _, h => absurd h (by omega)
/-- What the condition gives the walks. -/
theorem tabs_of_laid {W : World} (h : laidMetH Tryz.prog laid9 W) : Tabq W := by
  rw [MakeChecks.laidMetH_plain _ _ _ (by kernel_rfl)] at h
  have h3 := h.tail.tail
  have h4 := h3.tail
  have h5 := h4.tail
  have h6 := h5.tail
  have h7 := h6.tail
  have h8 := h7.tail
  have h9 := h8.tail
  rw [dTen] at h3
  rw [dPow] at h6
  rw [dCls] at h7
  rw [dWiw] at h8
  rw [dTyw] at h9
  obtain ⟨a0, s0, hv0, -, -, -⟩ := laid_sentinel h4 gRan tRan Tryz.underlying154 rowE Tryz.underlying294 Tryz.underlying296 rfl rfl Tryz.underlying9 cE cS9
  obtain ⟨a1, s1, hv1, -, -, -⟩ := laid_sentinel h5 gSyn tSyn Tryz.underlying154 rowE Tryz.underlying294 Tryz.underlying296 rfl rfl Tryz.underlying9 cE cS9
  refine ⟨⟨Lib.tabIs_of_head gPow tPow Tryz.underlying223 Tryz.underlying3 cI3 cPow h6, Lib.tabIs_of_head gTen tTen Tryz.underlying269 Tryz.underlying212 cU cTen h3, ⟨_, _, hv1⟩, ⟨_, _, hv0⟩, Lib.tabIs_of_head gCls tCls Tryz.underlying213 Tryz.underlying172 cC1 cCls h7⟩, fun j h1 h2 => ?_, fun j h1 h2 => ?_⟩
  · rw [← tyL_at j h1 h2]
    exact strs_of_head gTyw tTyw Tryz.underlying147 Tryz.underlying9 cS9 cTyw h9 j h2
  · rw [← wiL_at j h1 h2]
    exact strs_of_head gWiw tWiw Tryz.underlying231 Tryz.underlying9 cS9 cWiw h8 j h2
set_option maxRecDepth 100000 in
/-- The heap that the door's own run leaves meets the condition. -/
theorem door_met (os : Os) (args : Array Value) : laidMetH Tryz.prog laid9 ((World.doorLaid Tryz.prog 93 os).forCall (fun _ _ => 0) ⟨#[], args, []⟩).memory :=
  laidMetH_of_parts3 (fuel := 8) (laidMet_of_run' 8 (by kernel_rfl) (by kernel_rfl)) (by kernel_rfl) (by kernel_rfl)

end Go.Proofs.YtbahfelnbofjjaaGreatDoor

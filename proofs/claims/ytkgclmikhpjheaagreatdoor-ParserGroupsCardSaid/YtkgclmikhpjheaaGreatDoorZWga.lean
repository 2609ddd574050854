/-
  ParserGroups: the walk, a source that is an expression. (Written by g_wgr3.py.)
-/
import Derived.Test.YtkgclmikhpjheaaGreatDoorZWgq
namespace Go.Proofs.YtkgclmikhpjheaaGreatDoor.pa
open Go.RowKit dec

set_option maxRecDepth 100000 in
set_option maxHeartbeats 16000000 in
theorem wga_cmp (a0 : Option Addr) (n0 c0 : Nat) (s : ByteArray) (m n : Int) (w : World) (hS : Bs w a0 n0 c0 s) (T : Tabs w) (EXA : ExA) (x o1 o2 y y1 y2 y3 l1 l2 l3 yl r2 r3 yr : ByteArray) (p q : Int) (hx : fewS 300 s = x)
    (R1 : ∀ W, Calls Tryz.prog 25 #[.int .i64 m] W fun e w' => e = .returned (.tuple #[.string o1, .int .i64 p]) ∧ Below W.heap.size W w')
    (R2 : ∀ W, Calls Tryz.prog 25 #[.int .i64 n] W fun e w' => e = .returned (.tuple #[.string o2, .int .i64 q]) ∧ Below W.heap.size W w')
    (CC : Cats o1 o2 y y1 y2 y3 l1 l2 l3 yl r2 r3 yr) (hzy : y.size ≤ 100) (hzz : yl.size ≤ 100) (a1 : Ex) (p1 p2 : Int) (hA1 : rTop x = (a1, p1, 0)) (hA2 : rTop (parS x) = (a1, p2, 0)) (a3 a4 : Ex) (p3 p4 : Int) (hp : p = 4) (hq : q = 4) (hA3 : rTop y = (a3, p3, 90)) (hA4 : rTop yl = (a4, p4, 0)) :
    Calls Tryz.prog 9 #[.slice a0 n0 c0, .int .i64 m, .int .i64 n] w fun e w' => e = .returned (.bool true) ∧ Below w.heap.size w w' := by
  have T0 := Lib.hid T
  have EX := Lib.hid EXA
  have hx3 := Lib.hid (show x.size ≤ 300 from hx ▸ fewS_size 300 s)
  have FW := Lib.hid (few_any a0 n0 c0 300 s w hS)
  have X0 := bs_few hS 300
  rw [hx] at FW X0
  have CV := X0.str
  obtain ⟨v, hv⟩ : ∃ v, v = parS x := ⟨_, rfl⟩
  obtain ⟨v1, hv1⟩ : ∃ v1 : ByteArray, v1 = ⟨#[40]⟩ ++ x := ⟨_, rfl⟩
  have s1 := fun W => cat_run ⟨#[40]⟩ x (by have : (⟨#[40]⟩ : ByteArray).size = 1 := rfl; have := hx3.out; omega) W
  rw [← hv1] at s1
  have s2 := fun W => cat_run v1 ⟨#[10, 41]⟩ (by rw [hv1, ByteArray.size_append]; have : (⟨#[40]⟩ : ByteArray).size = 1 := rfl; have : (⟨#[10, 41]⟩ : ByteArray).size = 2 := rfl; have := hx3.out; omega) W
  rw [show v1 ++ ⟨#[10, 41]⟩ = v from by rw [hv1, hv]; rfl] at s2
  have zv := Lib.hid (show v.size ≤ 303 from by rw [hv, parS_size]; have := hx3.out; omega)
  rw [← hv] at hA2
  have zy := Lib.hid hzy
  have zz := Lib.hid hzz
  obtain ⟨w1, k1, hcv1, hB1, b1⟩ := bytes_of w x (by have := hx3.out; omega)
  have C1 := Lib.hid (topE_any _ _ _ x w1 hB1 (T.stays b1) _ hA1)
  have B1 := Lib.hid b1
  have RA := Lib.hid R1
  have RB := Lib.hid R2
  have HA2 := Lib.hid hA2
  have HA3 := Lib.hid hA3
  have HA4 := Lib.hid hA4
  have sm1 := Lib.hid (top_sm hA1)
  have sm3 := Lib.hid (top_sm hA3)
  have CH := Lib.hid CC
  subst hp hq
  clear T EXA hS X0 b1 hB1 R1 R2 hA1 hA2 hA3 hA4 hx hv hv1 CC hzy hzz    
  go_enter Tryz.func9, Tryz.ntmps9
  go_wp2_with fail
  refine FW.out.mono ?_
  rintro e w0 ⟨rfl, rfl⟩
  go_wp2_with fail
  refine C1.out.mono ?_
  rintro e w2 ⟨r, rfl, V, b⟩
  obtain ⟨ua1, uc1, aa1, ac1, rfl, E⟩ := V
  have B2 := Lib.hid (bnext B1.out b)
  have E1 := Lib.hid E
  clear b E C1 FW CV hcv1
  go_wp2_with (refine arm_storeT infX (.tmp 8) (.tmp 32) rfl rfl _ _ _ _ rfl rfl (Blk.new _ _ _) rfl rfl (exC_one _ _ _ _ _) ?_; intro w3 L s3; have b := (balloc (b0 w2) _).trans (s3.below (Nat.le_refl _)); have L3 := Lib.hid L; have F3 := Lib.hid b; have B3 := Lib.hid (bnext B2.out b); clear L s3 b; obtain ⟨w4, k4, hcv4, hB4, b4⟩ := bytes_of w3 v (by have := zv.out; omega); have C4 := Lib.hid (topE_any _ _ _ _ w4 hB4 ((T0.out.stays B3.out).stays b4) _ HA2.out); have B4 := Lib.hid (bnext B3.out b4); have F4 := Lib.hid b4; clear b4 hB4)
  refine C4.out.mono ?_
  rintro e w5 ⟨r, rfl, V, b⟩
  obtain ⟨ua2, uc2, aa2, ac2, rfl, E⟩ := V
  have B5 := Lib.hid (bnext B4.out b)
  have F5 := Lib.hid (bnext F4.out b)
  have E2 := Lib.hid E
  clear b E C4 hcv4 F4 s1 s2
  go_wp2_with (first | (refine arm_storeT infX (.tmp 11) (.tmp 41) rfl rfl _ _ _ _ rfl rfl (Blk.new _ _ _) rfl rfl (exC_one _ _ _ _ _) ?_; intro w6 L s3; have b := (balloc (b0 w5) _).trans (s3.below (Nat.le_refl _)); have L6 := Lib.hid L; have F6 := Lib.hid b; have B6 := Lib.hid (bnext B5.out b); have M6 := Lib.hid (L3.out.below (bnext F5.out b) L3.out.lt); clear L s3 b) | (refine arm_loadG infX Tryz.underlying43 rfl (.tmp 8) rfl (by first | rfl | decide | kernel_rfl) _ _ _ rfl M6.out rfl ?_) | (refine arm_loadG infX Tryz.underlying43 rfl (.tmp 11) rfl (by first | rfl | decide | kernel_rfl) _ _ _ rfl L6.out rfl ?_))
  refine (sameE_any _ _ a1 ua1 aa1 ua2 aa2 uc1 ac1 uc2 ac2 w6 sm1.out.1 sm1.out.2.1 sm1.out.2.2 (E1.out.kp (kp_of (bnext F3.out (bnext F5.out F6.out)))) (E2.out.kp (kp_of F6.out))).mono ?_
  rintro e w7 ⟨rfl, b⟩
  have B7 := Lib.hid (bnext B6.out b)
  clear b M6
  clear L3 L6 E1 E2 F3 F5 F6 B1 B2 B3 B4 B5 B6
  go_wp2_with fail
  refine (RA.out _).mono ?_
  rintro e w8 ⟨rfl, b⟩
  have B8 := Lib.hid (bnext B7.out b)
  clear b
  go_wp2_with fail
  refine (RB.out _).mono ?_
  rintro e w9 ⟨rfl, b⟩
  have B9 := Lib.hid (bnext B8.out b)
  clear b B7 B8 RA RB
  have c1 := CH.out.c1
  have c2 := CH.out.c2
  have c3 := CH.out.c3
  have c4 := CH.out.c4
  obtain ⟨w10, k10, hcv10, hB10, b10⟩ := bytes_of w9 y (by have := zy.out; omega)
  have C10 := Lib.hid (topE_any _ _ _ y w10 hB10 ((T0.out.stays B9.out).stays b10) _ HA3.out)
  have B10 := Lib.hid (bnext B9.out b10)
  clear b10 hB10
  go_wp2_with fail
  refine C10.out.mono ?_
  rintro e w11 ⟨r, rfl, V, b⟩
  obtain ⟨ua3, uc3, aa3, ac3, rfl, E⟩ := V
  have B11 := Lib.hid (bnext B10.out b)
  have E3 := Lib.hid E
  clear b E C10 hcv10 c1 c2 c3 c4
  have d1 := CH.out.d1
  have d2 := CH.out.d2
  have d3 := CH.out.d3
  have d4 := CH.out.d4
  go_wp2_with (refine arm_storeT infX (.tmp 18) (.tmp 75) rfl rfl _ _ _ _ rfl rfl (Blk.new _ _ _) rfl rfl (exC_one _ _ _ _ _) ?_; intro w12 L s3; have b := (balloc (b0 w11) _).trans (s3.below (Nat.le_refl _)); have L12 := Lib.hid L; have F12 := Lib.hid b; have B12 := Lib.hid (bnext B11.out b); clear L s3 b; obtain ⟨w13, k13, hcv13, hB13, b13⟩ := bytes_of w12 yl (by have := zz.out; omega); have C13 := Lib.hid (topE_any _ _ _ _ w13 hB13 ((T0.out.stays B12.out).stays b13) _ HA4.out); have B13 := Lib.hid (bnext B12.out b13); have F13 := Lib.hid b13; clear b13 hB13)
  refine C13.out.mono ?_
  rintro e w14 ⟨r, rfl, V, b⟩
  obtain ⟨ua4, uc4, aa4, ac4, rfl, E⟩ := V
  have B14 := Lib.hid (bnext B13.out b)
  have F14 := Lib.hid (bnext F13.out b)
  have E4 := Lib.hid E
  clear b E C13 hcv13 F13
  go_wp2_with (refine arm_storeT infX (.tmp 22) (.tmp 97) rfl rfl _ _ _ _ rfl rfl (Blk.new _ _ _) rfl rfl (exC_one _ _ _ _ _) ?_; intro w15 L s3; have b := (balloc (b0 w14) _).trans (s3.below (Nat.le_refl _)); have L15 := Lib.hid L; have F15 := Lib.hid b; have B15 := Lib.hid (bnext B14.out b); clear L s3 b)
  refine (EX.out _ (T0.out.stays B15.out)).mono ?_
  rintro e w17 ⟨rfl, b⟩
  have B17 := Lib.hid (bnext B15.out b)
  clear b
  go_wp2_with fail
  go_ret
  exact ⟨rfl, B17.out⟩
set_option maxRecDepth 100000 in
set_option maxHeartbeats 16000000 in
theorem wga_lefta (a0 : Option Addr) (n0 c0 : Nat) (s : ByteArray) (m n : Int) (w : World) (hS : Bs w a0 n0 c0 s) (T : Tabs w) (EXA : ExA) (x o1 o2 y y1 y2 y3 l1 l2 l3 yl r2 r3 yr : ByteArray) (p q : Int) (hx : fewS 300 s = x)
    (R1 : ∀ W, Calls Tryz.prog 25 #[.int .i64 m] W fun e w' => e = .returned (.tuple #[.string o1, .int .i64 p]) ∧ Below W.heap.size W w')
    (R2 : ∀ W, Calls Tryz.prog 25 #[.int .i64 n] W fun e w' => e = .returned (.tuple #[.string o2, .int .i64 q]) ∧ Below W.heap.size W w')
    (CC : Cats o1 o2 y y1 y2 y3 l1 l2 l3 yl r2 r3 yr) (hzy : y.size ≤ 100) (hzz : yl.size ≤ 100) (a1 : Ex) (p1 p2 : Int) (hA1 : rTop x = (a1, p1, 0)) (hA2 : rTop (parS x) = (a1, p2, 0)) (a3 : Ex) (p3 p4 : Int) (hp : p ≠ 4) (hlt : ¬ p < q) (hA3 : rTop y = (a3, p3, 0)) (hA4 : rTop yl = (a3, p4, 0)) :
    Calls Tryz.prog 9 #[.slice a0 n0 c0, .int .i64 m, .int .i64 n] w fun e w' => e = .returned (.bool true) ∧ Below w.heap.size w w' := by
  have T0 := Lib.hid T
  have EX := Lib.hid EXA
  have hx3 := Lib.hid (show x.size ≤ 300 from hx ▸ fewS_size 300 s)
  have FW := Lib.hid (few_any a0 n0 c0 300 s w hS)
  have X0 := bs_few hS 300
  rw [hx] at FW X0
  have CV := X0.str
  obtain ⟨v, hv⟩ : ∃ v, v = parS x := ⟨_, rfl⟩
  obtain ⟨v1, hv1⟩ : ∃ v1 : ByteArray, v1 = ⟨#[40]⟩ ++ x := ⟨_, rfl⟩
  have s1 := fun W => cat_run ⟨#[40]⟩ x (by have : (⟨#[40]⟩ : ByteArray).size = 1 := rfl; have := hx3.out; omega) W
  rw [← hv1] at s1
  have s2 := fun W => cat_run v1 ⟨#[10, 41]⟩ (by rw [hv1, ByteArray.size_append]; have : (⟨#[40]⟩ : ByteArray).size = 1 := rfl; have : (⟨#[10, 41]⟩ : ByteArray).size = 2 := rfl; have := hx3.out; omega) W
  rw [show v1 ++ ⟨#[10, 41]⟩ = v from by rw [hv1, hv]; rfl] at s2
  have zv := Lib.hid (show v.size ≤ 303 from by rw [hv, parS_size]; have := hx3.out; omega)
  rw [← hv] at hA2
  have zy := Lib.hid hzy
  have zz := Lib.hid hzz
  obtain ⟨w1, k1, hcv1, hB1, b1⟩ := bytes_of w x (by have := hx3.out; omega)
  have C1 := Lib.hid (topE_any _ _ _ x w1 hB1 (T.stays b1) _ hA1)
  have B1 := Lib.hid b1
  have RA := Lib.hid R1
  have RB := Lib.hid R2
  have HA2 := Lib.hid hA2
  have HA3 := Lib.hid hA3
  have HA4 := Lib.hid hA4
  have sm1 := Lib.hid (top_sm hA1)
  have sm3 := Lib.hid (top_sm hA3)
  have CH := Lib.hid CC
  have q5 : (p == 4) = false := by simp [hp]
  have q6 : (p != 4) = true := by simp [hp]
  have q3 : decide (q > p) = false := decide_eq_false hlt
  have q4 : decide (p < q) = false := decide_eq_false hlt
  clear T EXA hS X0 b1 hB1 R1 R2 hA1 hA2 hA3 hA4 hx hv hv1 CC hzy hzz  hlt hp 
  go_enter Tryz.func9, Tryz.ntmps9
  go_wp2_with fail
  refine FW.out.mono ?_
  rintro e w0 ⟨rfl, rfl⟩
  go_wp2_with fail
  refine C1.out.mono ?_
  rintro e w2 ⟨r, rfl, V, b⟩
  obtain ⟨ua1, uc1, aa1, ac1, rfl, E⟩ := V
  have B2 := Lib.hid (bnext B1.out b)
  have E1 := Lib.hid E
  clear b E C1 FW CV hcv1
  go_wp2_with (refine arm_storeT infX (.tmp 8) (.tmp 32) rfl rfl _ _ _ _ rfl rfl (Blk.new _ _ _) rfl rfl (exC_one _ _ _ _ _) ?_; intro w3 L s3; have b := (balloc (b0 w2) _).trans (s3.below (Nat.le_refl _)); have L3 := Lib.hid L; have F3 := Lib.hid b; have B3 := Lib.hid (bnext B2.out b); clear L s3 b; obtain ⟨w4, k4, hcv4, hB4, b4⟩ := bytes_of w3 v (by have := zv.out; omega); have C4 := Lib.hid (topE_any _ _ _ _ w4 hB4 ((T0.out.stays B3.out).stays b4) _ HA2.out); have B4 := Lib.hid (bnext B3.out b4); have F4 := Lib.hid b4; clear b4 hB4)
  refine C4.out.mono ?_
  rintro e w5 ⟨r, rfl, V, b⟩
  obtain ⟨ua2, uc2, aa2, ac2, rfl, E⟩ := V
  have B5 := Lib.hid (bnext B4.out b)
  have F5 := Lib.hid (bnext F4.out b)
  have E2 := Lib.hid E
  clear b E C4 hcv4 F4 s1 s2
  go_wp2_with (first | (refine arm_storeT infX (.tmp 11) (.tmp 41) rfl rfl _ _ _ _ rfl rfl (Blk.new _ _ _) rfl rfl (exC_one _ _ _ _ _) ?_; intro w6 L s3; have b := (balloc (b0 w5) _).trans (s3.below (Nat.le_refl _)); have L6 := Lib.hid L; have F6 := Lib.hid b; have B6 := Lib.hid (bnext B5.out b); have M6 := Lib.hid (L3.out.below (bnext F5.out b) L3.out.lt); clear L s3 b) | (refine arm_loadG infX Tryz.underlying43 rfl (.tmp 8) rfl (by first | rfl | decide | kernel_rfl) _ _ _ rfl M6.out rfl ?_) | (refine arm_loadG infX Tryz.underlying43 rfl (.tmp 11) rfl (by first | rfl | decide | kernel_rfl) _ _ _ rfl L6.out rfl ?_))
  refine (sameE_any _ _ a1 ua1 aa1 ua2 aa2 uc1 ac1 uc2 ac2 w6 sm1.out.1 sm1.out.2.1 sm1.out.2.2 (E1.out.kp (kp_of (bnext F3.out (bnext F5.out F6.out)))) (E2.out.kp (kp_of F6.out))).mono ?_
  rintro e w7 ⟨rfl, b⟩
  have B7 := Lib.hid (bnext B6.out b)
  clear b M6
  clear L3 L6 E1 E2 F3 F5 F6 B1 B2 B3 B4 B5 B6
  go_wp2_with fail
  refine (RA.out _).mono ?_
  rintro e w8 ⟨rfl, b⟩
  have B8 := Lib.hid (bnext B7.out b)
  clear b
  go_wp2_with fail
  refine (RB.out _).mono ?_
  rintro e w9 ⟨rfl, b⟩
  have B9 := Lib.hid (bnext B8.out b)
  clear b B7 B8 RA RB
  have c1 := CH.out.c1
  have c2 := CH.out.c2
  have c3 := CH.out.c3
  have c4 := CH.out.c4
  obtain ⟨w10, k10, hcv10, hB10, b10⟩ := bytes_of w9 y (by have := zy.out; omega)
  have C10 := Lib.hid (topE_any _ _ _ y w10 hB10 ((T0.out.stays B9.out).stays b10) _ HA3.out)
  have B10 := Lib.hid (bnext B9.out b10)
  clear b10 hB10
  go_wp2_with fail
  refine C10.out.mono ?_
  rintro e w11 ⟨r, rfl, V, b⟩
  obtain ⟨ua3, uc3, aa3, ac3, rfl, E⟩ := V
  have B11 := Lib.hid (bnext B10.out b)
  have E3 := Lib.hid E
  clear b E C10 hcv10 c1 c2 c3 c4
  have d1 := CH.out.d1
  have d2 := CH.out.d2
  have d3 := CH.out.d3
  have d4 := CH.out.d4
  go_wp2_with (refine arm_storeT infX (.tmp 18) (.tmp 75) rfl rfl _ _ _ _ rfl rfl (Blk.new _ _ _) rfl rfl (exC_one _ _ _ _ _) ?_; intro w12 L s3; have b := (balloc (b0 w11) _).trans (s3.below (Nat.le_refl _)); have L12 := Lib.hid L; have F12 := Lib.hid b; have B12 := Lib.hid (bnext B11.out b); clear L s3 b; obtain ⟨w13, k13, hcv13, hB13, b13⟩ := bytes_of w12 yl (by have := zz.out; omega); have C13 := Lib.hid (topE_any _ _ _ _ w13 hB13 ((T0.out.stays B12.out).stays b13) _ HA4.out); have B13 := Lib.hid (bnext B12.out b13); have F13 := Lib.hid b13; clear b13 hB13)
  refine C13.out.mono ?_
  rintro e w14 ⟨r, rfl, V, b⟩
  obtain ⟨ua4, uc4, aa4, ac4, rfl, E⟩ := V
  have B14 := Lib.hid (bnext B13.out b)
  have F14 := Lib.hid (bnext F13.out b)
  have E4 := Lib.hid E
  clear b E C13 hcv13 F13
  go_wp2_with (first | (refine arm_storeT infX (.tmp 22) (.tmp 97) rfl rfl _ _ _ _ rfl rfl (Blk.new _ _ _) rfl rfl (exC_one _ _ _ _ _) ?_; intro w15 L s3; have b := (balloc (b0 w14) _).trans (s3.below (Nat.le_refl _)); have L15 := Lib.hid L; have F15 := Lib.hid b; have B15 := Lib.hid (bnext B14.out b); have M15 := Lib.hid (L12.out.below (bnext F14.out b) L12.out.lt); clear L s3 b) | (refine arm_loadG infX Tryz.underlying43 rfl (.tmp 18) rfl (by first | rfl | decide | kernel_rfl) _ _ _ rfl M15.out rfl ?_) | (refine arm_loadG infX Tryz.underlying43 rfl (.tmp 22) rfl (by first | rfl | decide | kernel_rfl) _ _ _ rfl L15.out rfl ?_))
  refine (sameE_any _ _ a3 ua3 aa3 ua4 aa4 uc3 ac3 uc4 ac4 w15 sm3.out.1 sm3.out.2.1 sm3.out.2.2 (E3.out.kp (kp_of (bnext F12.out (bnext F14.out F15.out)))) (E4.out.kp (kp_of F15.out))).mono ?_
  rintro e w16 ⟨rfl, b⟩
  have B16 := Lib.hid (bnext B15.out b)
  clear b M15
  go_wp2_with fail
  refine (EX.out _ (T0.out.stays B16.out)).mono ?_
  rintro e w17 ⟨rfl, b⟩
  have B17 := Lib.hid (bnext B16.out b)
  clear b
  go_wp2_with fail
  go_ret
  exact ⟨rfl, B17.out⟩
set_option maxRecDepth 100000 in
set_option maxHeartbeats 16000000 in
theorem wga_leftb (a0 : Option Addr) (n0 c0 : Nat) (s : ByteArray) (m n : Int) (w : World) (hS : Bs w a0 n0 c0 s) (T : Tabs w) (EXA : ExA) (x o1 o2 y y1 y2 y3 l1 l2 l3 yl r2 r3 yr : ByteArray) (p q : Int) (hx : fewS 300 s = x)
    (R1 : ∀ W, Calls Tryz.prog 25 #[.int .i64 m] W fun e w' => e = .returned (.tuple #[.string o1, .int .i64 p]) ∧ Below W.heap.size W w')
    (R2 : ∀ W, Calls Tryz.prog 25 #[.int .i64 n] W fun e w' => e = .returned (.tuple #[.string o2, .int .i64 q]) ∧ Below W.heap.size W w')
    (CC : Cats o1 o2 y y1 y2 y3 l1 l2 l3 yl r2 r3 yr) (hzy : y.size ≤ 100) (hzz : yl.size ≤ 100) (a1 : Ex) (p1 p2 : Int) (hA1 : rTop x = (a1, p1, 0)) (hA2 : rTop (parS x) = (a1, p2, 0)) (a3 : Ex) (p3 p4 : Int) (hp : p = 4) (hq : q ≠ 4) (hlt : ¬ p < q) (hA3 : rTop y = (a3, p3, 0)) (hA4 : rTop yl = (a3, p4, 0)) :
    Calls Tryz.prog 9 #[.slice a0 n0 c0, .int .i64 m, .int .i64 n] w fun e w' => e = .returned (.bool true) ∧ Below w.heap.size w w' := by
  have T0 := Lib.hid T
  have EX := Lib.hid EXA
  have hx3 := Lib.hid (show x.size ≤ 300 from hx ▸ fewS_size 300 s)
  have FW := Lib.hid (few_any a0 n0 c0 300 s w hS)
  have X0 := bs_few hS 300
  rw [hx] at FW X0
  have CV := X0.str
  obtain ⟨v, hv⟩ : ∃ v, v = parS x := ⟨_, rfl⟩
  obtain ⟨v1, hv1⟩ : ∃ v1 : ByteArray, v1 = ⟨#[40]⟩ ++ x := ⟨_, rfl⟩
  have s1 := fun W => cat_run ⟨#[40]⟩ x (by have : (⟨#[40]⟩ : ByteArray).size = 1 := rfl; have := hx3.out; omega) W
  rw [← hv1] at s1
  have s2 := fun W => cat_run v1 ⟨#[10, 41]⟩ (by rw [hv1, ByteArray.size_append]; have : (⟨#[40]⟩ : ByteArray).size = 1 := rfl; have : (⟨#[10, 41]⟩ : ByteArray).size = 2 := rfl; have := hx3.out; omega) W
  rw [show v1 ++ ⟨#[10, 41]⟩ = v from by rw [hv1, hv]; rfl] at s2
  have zv := Lib.hid (show v.size ≤ 303 from by rw [hv, parS_size]; have := hx3.out; omega)
  rw [← hv] at hA2
  have zy := Lib.hid hzy
  have zz := Lib.hid hzz
  obtain ⟨w1, k1, hcv1, hB1, b1⟩ := bytes_of w x (by have := hx3.out; omega)
  have C1 := Lib.hid (topE_any _ _ _ x w1 hB1 (T.stays b1) _ hA1)
  have B1 := Lib.hid b1
  have RA := Lib.hid R1
  have RB := Lib.hid R2
  have HA2 := Lib.hid hA2
  have HA3 := Lib.hid hA3
  have HA4 := Lib.hid hA4
  have sm1 := Lib.hid (top_sm hA1)
  have sm3 := Lib.hid (top_sm hA3)
  have CH := Lib.hid CC
  subst hp
  have q5 : (q == 4) = false := by simp [hq]
  have q6 : (q != 4) = true := by simp [hq]
  have q3 : decide (q > 4) = false := decide_eq_false hlt
  have q4 : decide (4 < q) = false := decide_eq_false hlt
  clear T EXA hS X0 b1 hB1 R1 R2 hA1 hA2 hA3 hA4 hx hv hv1 CC hzy hzz  hlt  hq
  go_enter Tryz.func9, Tryz.ntmps9
  go_wp2_with fail
  refine FW.out.mono ?_
  rintro e w0 ⟨rfl, rfl⟩
  go_wp2_with fail
  refine C1.out.mono ?_
  rintro e w2 ⟨r, rfl, V, b⟩
  obtain ⟨ua1, uc1, aa1, ac1, rfl, E⟩ := V
  have B2 := Lib.hid (bnext B1.out b)
  have E1 := Lib.hid E
  clear b E C1 FW CV hcv1
  go_wp2_with (refine arm_storeT infX (.tmp 8) (.tmp 32) rfl rfl _ _ _ _ rfl rfl (Blk.new _ _ _) rfl rfl (exC_one _ _ _ _ _) ?_; intro w3 L s3; have b := (balloc (b0 w2) _).trans (s3.below (Nat.le_refl _)); have L3 := Lib.hid L; have F3 := Lib.hid b; have B3 := Lib.hid (bnext B2.out b); clear L s3 b; obtain ⟨w4, k4, hcv4, hB4, b4⟩ := bytes_of w3 v (by have := zv.out; omega); have C4 := Lib.hid (topE_any _ _ _ _ w4 hB4 ((T0.out.stays B3.out).stays b4) _ HA2.out); have B4 := Lib.hid (bnext B3.out b4); have F4 := Lib.hid b4; clear b4 hB4)
  refine C4.out.mono ?_
  rintro e w5 ⟨r, rfl, V, b⟩
  obtain ⟨ua2, uc2, aa2, ac2, rfl, E⟩ := V
  have B5 := Lib.hid (bnext B4.out b)
  have F5 := Lib.hid (bnext F4.out b)
  have E2 := Lib.hid E
  clear b E C4 hcv4 F4 s1 s2
  go_wp2_with (first | (refine arm_storeT infX (.tmp 11) (.tmp 41) rfl rfl _ _ _ _ rfl rfl (Blk.new _ _ _) rfl rfl (exC_one _ _ _ _ _) ?_; intro w6 L s3; have b := (balloc (b0 w5) _).trans (s3.below (Nat.le_refl _)); have L6 := Lib.hid L; have F6 := Lib.hid b; have B6 := Lib.hid (bnext B5.out b); have M6 := Lib.hid (L3.out.below (bnext F5.out b) L3.out.lt); clear L s3 b) | (refine arm_loadG infX Tryz.underlying43 rfl (.tmp 8) rfl (by first | rfl | decide | kernel_rfl) _ _ _ rfl M6.out rfl ?_) | (refine arm_loadG infX Tryz.underlying43 rfl (.tmp 11) rfl (by first | rfl | decide | kernel_rfl) _ _ _ rfl L6.out rfl ?_))
  refine (sameE_any _ _ a1 ua1 aa1 ua2 aa2 uc1 ac1 uc2 ac2 w6 sm1.out.1 sm1.out.2.1 sm1.out.2.2 (E1.out.kp (kp_of (bnext F3.out (bnext F5.out F6.out)))) (E2.out.kp (kp_of F6.out))).mono ?_
  rintro e w7 ⟨rfl, b⟩
  have B7 := Lib.hid (bnext B6.out b)
  clear b M6
  clear L3 L6 E1 E2 F3 F5 F6 B1 B2 B3 B4 B5 B6
  go_wp2_with fail
  refine (RA.out _).mono ?_
  rintro e w8 ⟨rfl, b⟩
  have B8 := Lib.hid (bnext B7.out b)
  clear b
  go_wp2_with fail
  refine (RB.out _).mono ?_
  rintro e w9 ⟨rfl, b⟩
  have B9 := Lib.hid (bnext B8.out b)
  clear b B7 B8 RA RB
  have c1 := CH.out.c1
  have c2 := CH.out.c2
  have c3 := CH.out.c3
  have c4 := CH.out.c4
  obtain ⟨w10, k10, hcv10, hB10, b10⟩ := bytes_of w9 y (by have := zy.out; omega)
  have C10 := Lib.hid (topE_any _ _ _ y w10 hB10 ((T0.out.stays B9.out).stays b10) _ HA3.out)
  have B10 := Lib.hid (bnext B9.out b10)
  clear b10 hB10
  go_wp2_with fail
  refine C10.out.mono ?_
  rintro e w11 ⟨r, rfl, V, b⟩
  obtain ⟨ua3, uc3, aa3, ac3, rfl, E⟩ := V
  have B11 := Lib.hid (bnext B10.out b)
  have E3 := Lib.hid E
  clear b E C10 hcv10 c1 c2 c3 c4
  have d1 := CH.out.d1
  have d2 := CH.out.d2
  have d3 := CH.out.d3
  have d4 := CH.out.d4
  go_wp2_with (refine arm_storeT infX (.tmp 18) (.tmp 75) rfl rfl _ _ _ _ rfl rfl (Blk.new _ _ _) rfl rfl (exC_one _ _ _ _ _) ?_; intro w12 L s3; have b := (balloc (b0 w11) _).trans (s3.below (Nat.le_refl _)); have L12 := Lib.hid L; have F12 := Lib.hid b; have B12 := Lib.hid (bnext B11.out b); clear L s3 b; obtain ⟨w13, k13, hcv13, hB13, b13⟩ := bytes_of w12 yl (by have := zz.out; omega); have C13 := Lib.hid (topE_any _ _ _ _ w13 hB13 ((T0.out.stays B12.out).stays b13) _ HA4.out); have B13 := Lib.hid (bnext B12.out b13); have F13 := Lib.hid b13; clear b13 hB13)
  refine C13.out.mono ?_
  rintro e w14 ⟨r, rfl, V, b⟩
  obtain ⟨ua4, uc4, aa4, ac4, rfl, E⟩ := V
  have B14 := Lib.hid (bnext B13.out b)
  have F14 := Lib.hid (bnext F13.out b)
  have E4 := Lib.hid E
  clear b E C13 hcv13 F13
  go_wp2_with (first | (refine arm_storeT infX (.tmp 22) (.tmp 97) rfl rfl _ _ _ _ rfl rfl (Blk.new _ _ _) rfl rfl (exC_one _ _ _ _ _) ?_; intro w15 L s3; have b := (balloc (b0 w14) _).trans (s3.below (Nat.le_refl _)); have L15 := Lib.hid L; have F15 := Lib.hid b; have B15 := Lib.hid (bnext B14.out b); have M15 := Lib.hid (L12.out.below (bnext F14.out b) L12.out.lt); clear L s3 b) | (refine arm_loadG infX Tryz.underlying43 rfl (.tmp 18) rfl (by first | rfl | decide | kernel_rfl) _ _ _ rfl M15.out rfl ?_) | (refine arm_loadG infX Tryz.underlying43 rfl (.tmp 22) rfl (by first | rfl | decide | kernel_rfl) _ _ _ rfl L15.out rfl ?_))
  refine (sameE_any _ _ a3 ua3 aa3 ua4 aa4 uc3 ac3 uc4 ac4 w15 sm3.out.1 sm3.out.2.1 sm3.out.2.2 (E3.out.kp (kp_of (bnext F12.out (bnext F14.out F15.out)))) (E4.out.kp (kp_of F15.out))).mono ?_
  rintro e w16 ⟨rfl, b⟩
  have B16 := Lib.hid (bnext B15.out b)
  clear b M15
  go_wp2_with fail
  refine (EX.out _ (T0.out.stays B16.out)).mono ?_
  rintro e w17 ⟨rfl, b⟩
  have B17 := Lib.hid (bnext B16.out b)
  clear b
  go_wp2_with fail
  go_ret
  exact ⟨rfl, B17.out⟩
set_option maxRecDepth 100000 in
set_option maxHeartbeats 16000000 in
theorem wga_righta (a0 : Option Addr) (n0 c0 : Nat) (s : ByteArray) (m n : Int) (w : World) (hS : Bs w a0 n0 c0 s) (T : Tabs w) (EXA : ExA) (x o1 o2 y y1 y2 y3 l1 l2 l3 yl r2 r3 yr : ByteArray) (p q : Int) (hx : fewS 300 s = x)
    (R1 : ∀ W, Calls Tryz.prog 25 #[.int .i64 m] W fun e w' => e = .returned (.tuple #[.string o1, .int .i64 p]) ∧ Below W.heap.size W w')
    (R2 : ∀ W, Calls Tryz.prog 25 #[.int .i64 n] W fun e w' => e = .returned (.tuple #[.string o2, .int .i64 q]) ∧ Below W.heap.size W w')
    (CC : Cats o1 o2 y y1 y2 y3 l1 l2 l3 yl r2 r3 yr) (hzy : y.size ≤ 100) (hzz : yr.size ≤ 100) (a1 : Ex) (p1 p2 : Int) (hA1 : rTop x = (a1, p1, 0)) (hA2 : rTop (parS x) = (a1, p2, 0)) (a3 : Ex) (p3 p4 : Int) (hp : p ≠ 4) (hlt : p < q) (hA3 : rTop y = (a3, p3, 0)) (hA4 : rTop yr = (a3, p4, 0)) :
    Calls Tryz.prog 9 #[.slice a0 n0 c0, .int .i64 m, .int .i64 n] w fun e w' => e = .returned (.bool true) ∧ Below w.heap.size w w' := by
  have T0 := Lib.hid T
  have EX := Lib.hid EXA
  have hx3 := Lib.hid (show x.size ≤ 300 from hx ▸ fewS_size 300 s)
  have FW := Lib.hid (few_any a0 n0 c0 300 s w hS)
  have X0 := bs_few hS 300
  rw [hx] at FW X0
  have CV := X0.str
  obtain ⟨v, hv⟩ : ∃ v, v = parS x := ⟨_, rfl⟩
  obtain ⟨v1, hv1⟩ : ∃ v1 : ByteArray, v1 = ⟨#[40]⟩ ++ x := ⟨_, rfl⟩
  have s1 := fun W => cat_run ⟨#[40]⟩ x (by have : (⟨#[40]⟩ : ByteArray).size = 1 := rfl; have := hx3.out; omega) W
  rw [← hv1] at s1
  have s2 := fun W => cat_run v1 ⟨#[10, 41]⟩ (by rw [hv1, ByteArray.size_append]; have : (⟨#[40]⟩ : ByteArray).size = 1 := rfl; have : (⟨#[10, 41]⟩ : ByteArray).size = 2 := rfl; have := hx3.out; omega) W
  rw [show v1 ++ ⟨#[10, 41]⟩ = v from by rw [hv1, hv]; rfl] at s2
  have zv := Lib.hid (show v.size ≤ 303 from by rw [hv, parS_size]; have := hx3.out; omega)
  rw [← hv] at hA2
  have zy := Lib.hid hzy
  have zz := Lib.hid hzz
  obtain ⟨w1, k1, hcv1, hB1, b1⟩ := bytes_of w x (by have := hx3.out; omega)
  have C1 := Lib.hid (topE_any _ _ _ x w1 hB1 (T.stays b1) _ hA1)
  have B1 := Lib.hid b1
  have RA := Lib.hid R1
  have RB := Lib.hid R2
  have HA2 := Lib.hid hA2
  have HA3 := Lib.hid hA3
  have HA4 := Lib.hid hA4
  have sm1 := Lib.hid (top_sm hA1)
  have sm3 := Lib.hid (top_sm hA3)
  have CH := Lib.hid CC
  have q5 : (p == 4) = false := by simp [hp]
  have q6 : (p != 4) = true := by simp [hp]
  have q3 : decide (q > p) = true := decide_eq_true hlt
  have q4 : decide (p < q) = true := decide_eq_true hlt
  clear T EXA hS X0 b1 hB1 R1 R2 hA1 hA2 hA3 hA4 hx hv hv1 CC hzy hzz  hlt hp 
  go_enter Tryz.func9, Tryz.ntmps9
  go_wp2_with fail
  refine FW.out.mono ?_
  rintro e w0 ⟨rfl, rfl⟩
  go_wp2_with fail
  refine C1.out.mono ?_
  rintro e w2 ⟨r, rfl, V, b⟩
  obtain ⟨ua1, uc1, aa1, ac1, rfl, E⟩ := V
  have B2 := Lib.hid (bnext B1.out b)
  have E1 := Lib.hid E
  clear b E C1 FW CV hcv1
  go_wp2_with (refine arm_storeT infX (.tmp 8) (.tmp 32) rfl rfl _ _ _ _ rfl rfl (Blk.new _ _ _) rfl rfl (exC_one _ _ _ _ _) ?_; intro w3 L s3; have b := (balloc (b0 w2) _).trans (s3.below (Nat.le_refl _)); have L3 := Lib.hid L; have F3 := Lib.hid b; have B3 := Lib.hid (bnext B2.out b); clear L s3 b; obtain ⟨w4, k4, hcv4, hB4, b4⟩ := bytes_of w3 v (by have := zv.out; omega); have C4 := Lib.hid (topE_any _ _ _ _ w4 hB4 ((T0.out.stays B3.out).stays b4) _ HA2.out); have B4 := Lib.hid (bnext B3.out b4); have F4 := Lib.hid b4; clear b4 hB4)
  refine C4.out.mono ?_
  rintro e w5 ⟨r, rfl, V, b⟩
  obtain ⟨ua2, uc2, aa2, ac2, rfl, E⟩ := V
  have B5 := Lib.hid (bnext B4.out b)
  have F5 := Lib.hid (bnext F4.out b)
  have E2 := Lib.hid E
  clear b E C4 hcv4 F4 s1 s2
  go_wp2_with (first | (refine arm_storeT infX (.tmp 11) (.tmp 41) rfl rfl _ _ _ _ rfl rfl (Blk.new _ _ _) rfl rfl (exC_one _ _ _ _ _) ?_; intro w6 L s3; have b := (balloc (b0 w5) _).trans (s3.below (Nat.le_refl _)); have L6 := Lib.hid L; have F6 := Lib.hid b; have B6 := Lib.hid (bnext B5.out b); have M6 := Lib.hid (L3.out.below (bnext F5.out b) L3.out.lt); clear L s3 b) | (refine arm_loadG infX Tryz.underlying43 rfl (.tmp 8) rfl (by first | rfl | decide | kernel_rfl) _ _ _ rfl M6.out rfl ?_) | (refine arm_loadG infX Tryz.underlying43 rfl (.tmp 11) rfl (by first | rfl | decide | kernel_rfl) _ _ _ rfl L6.out rfl ?_))
  refine (sameE_any _ _ a1 ua1 aa1 ua2 aa2 uc1 ac1 uc2 ac2 w6 sm1.out.1 sm1.out.2.1 sm1.out.2.2 (E1.out.kp (kp_of (bnext F3.out (bnext F5.out F6.out)))) (E2.out.kp (kp_of F6.out))).mono ?_
  rintro e w7 ⟨rfl, b⟩
  have B7 := Lib.hid (bnext B6.out b)
  clear b M6
  clear L3 L6 E1 E2 F3 F5 F6 B1 B2 B3 B4 B5 B6
  go_wp2_with fail
  refine (RA.out _).mono ?_
  rintro e w8 ⟨rfl, b⟩
  have B8 := Lib.hid (bnext B7.out b)
  clear b
  go_wp2_with fail
  refine (RB.out _).mono ?_
  rintro e w9 ⟨rfl, b⟩
  have B9 := Lib.hid (bnext B8.out b)
  clear b B7 B8 RA RB
  have c1 := CH.out.c1
  have c2 := CH.out.c2
  have c3 := CH.out.c3
  have c4 := CH.out.c4
  obtain ⟨w10, k10, hcv10, hB10, b10⟩ := bytes_of w9 y (by have := zy.out; omega)
  have C10 := Lib.hid (topE_any _ _ _ y w10 hB10 ((T0.out.stays B9.out).stays b10) _ HA3.out)
  have B10 := Lib.hid (bnext B9.out b10)
  clear b10 hB10
  go_wp2_with fail
  refine C10.out.mono ?_
  rintro e w11 ⟨r, rfl, V, b⟩
  obtain ⟨ua3, uc3, aa3, ac3, rfl, E⟩ := V
  have B11 := Lib.hid (bnext B10.out b)
  have E3 := Lib.hid E
  clear b E C10 hcv10  c2 c3 c4
  have d1 := CH.out.d1
  have d2 := CH.out.d2
  have d3 := CH.out.d3
  have d4 := CH.out.d4
  have e2 := CH.out.e2
  have e3 := CH.out.e3
  have e4 := CH.out.e4
  go_wp2_with (refine arm_storeT infX (.tmp 18) (.tmp 75) rfl rfl _ _ _ _ rfl rfl (Blk.new _ _ _) rfl rfl (exC_one _ _ _ _ _) ?_; intro w12 L s3; have b := (balloc (b0 w11) _).trans (s3.below (Nat.le_refl _)); have L12 := Lib.hid L; have F12 := Lib.hid b; have B12 := Lib.hid (bnext B11.out b); clear L s3 b; obtain ⟨w13, k13, hcv13, hB13, b13⟩ := bytes_of w12 yr (by have := zz.out; omega); have C13 := Lib.hid (topE_any _ _ _ _ w13 hB13 ((T0.out.stays B12.out).stays b13) _ HA4.out); have B13 := Lib.hid (bnext B12.out b13); have F13 := Lib.hid b13; clear b13 hB13)
  refine C13.out.mono ?_
  rintro e w14 ⟨r, rfl, V, b⟩
  obtain ⟨ua4, uc4, aa4, ac4, rfl, E⟩ := V
  have B14 := Lib.hid (bnext B13.out b)
  have F14 := Lib.hid (bnext F13.out b)
  have E4 := Lib.hid E
  clear b E C13 hcv13 F13
  go_wp2_with (first | (refine arm_storeT infX (.tmp 22) (.tmp 97) rfl rfl _ _ _ _ rfl rfl (Blk.new _ _ _) rfl rfl (exC_one _ _ _ _ _) ?_; intro w15 L s3; have b := (balloc (b0 w14) _).trans (s3.below (Nat.le_refl _)); have L15 := Lib.hid L; have F15 := Lib.hid b; have B15 := Lib.hid (bnext B14.out b); have M15 := Lib.hid (L12.out.below (bnext F14.out b) L12.out.lt); clear L s3 b) | (refine arm_loadG infX Tryz.underlying43 rfl (.tmp 18) rfl (by first | rfl | decide | kernel_rfl) _ _ _ rfl M15.out rfl ?_) | (refine arm_loadG infX Tryz.underlying43 rfl (.tmp 22) rfl (by first | rfl | decide | kernel_rfl) _ _ _ rfl L15.out rfl ?_))
  refine (sameE_any _ _ a3 ua3 aa3 ua4 aa4 uc3 ac3 uc4 ac4 w15 sm3.out.1 sm3.out.2.1 sm3.out.2.2 (E3.out.kp (kp_of (bnext F12.out (bnext F14.out F15.out)))) (E4.out.kp (kp_of F15.out))).mono ?_
  rintro e w16 ⟨rfl, b⟩
  have B16 := Lib.hid (bnext B15.out b)
  clear b M15
  go_wp2_with fail
  refine (EX.out _ (T0.out.stays B16.out)).mono ?_
  rintro e w17 ⟨rfl, b⟩
  have B17 := Lib.hid (bnext B16.out b)
  clear b
  go_wp2_with fail
  go_ret
  exact ⟨rfl, B17.out⟩
set_option maxRecDepth 100000 in
set_option maxHeartbeats 16000000 in
theorem wga_rightb (a0 : Option Addr) (n0 c0 : Nat) (s : ByteArray) (m n : Int) (w : World) (hS : Bs w a0 n0 c0 s) (T : Tabs w) (EXA : ExA) (x o1 o2 y y1 y2 y3 l1 l2 l3 yl r2 r3 yr : ByteArray) (p q : Int) (hx : fewS 300 s = x)
    (R1 : ∀ W, Calls Tryz.prog 25 #[.int .i64 m] W fun e w' => e = .returned (.tuple #[.string o1, .int .i64 p]) ∧ Below W.heap.size W w')
    (R2 : ∀ W, Calls Tryz.prog 25 #[.int .i64 n] W fun e w' => e = .returned (.tuple #[.string o2, .int .i64 q]) ∧ Below W.heap.size W w')
    (CC : Cats o1 o2 y y1 y2 y3 l1 l2 l3 yl r2 r3 yr) (hzy : y.size ≤ 100) (hzz : yr.size ≤ 100) (a1 : Ex) (p1 p2 : Int) (hA1 : rTop x = (a1, p1, 0)) (hA2 : rTop (parS x) = (a1, p2, 0)) (a3 : Ex) (p3 p4 : Int) (hp : p = 4) (hq : q ≠ 4) (hlt : p < q) (hA3 : rTop y = (a3, p3, 0)) (hA4 : rTop yr = (a3, p4, 0)) :
    Calls Tryz.prog 9 #[.slice a0 n0 c0, .int .i64 m, .int .i64 n] w fun e w' => e = .returned (.bool true) ∧ Below w.heap.size w w' := by
  have T0 := Lib.hid T
  have EX := Lib.hid EXA
  have hx3 := Lib.hid (show x.size ≤ 300 from hx ▸ fewS_size 300 s)
  have FW := Lib.hid (few_any a0 n0 c0 300 s w hS)
  have X0 := bs_few hS 300
  rw [hx] at FW X0
  have CV := X0.str
  obtain ⟨v, hv⟩ : ∃ v, v = parS x := ⟨_, rfl⟩
  obtain ⟨v1, hv1⟩ : ∃ v1 : ByteArray, v1 = ⟨#[40]⟩ ++ x := ⟨_, rfl⟩
  have s1 := fun W => cat_run ⟨#[40]⟩ x (by have : (⟨#[40]⟩ : ByteArray).size = 1 := rfl; have := hx3.out; omega) W
  rw [← hv1] at s1
  have s2 := fun W => cat_run v1 ⟨#[10, 41]⟩ (by rw [hv1, ByteArray.size_append]; have : (⟨#[40]⟩ : ByteArray).size = 1 := rfl; have : (⟨#[10, 41]⟩ : ByteArray).size = 2 := rfl; have := hx3.out; omega) W
  rw [show v1 ++ ⟨#[10, 41]⟩ = v from by rw [hv1, hv]; rfl] at s2
  have zv := Lib.hid (show v.size ≤ 303 from by rw [hv, parS_size]; have := hx3.out; omega)
  rw [← hv] at hA2
  have zy := Lib.hid hzy
  have zz := Lib.hid hzz
  obtain ⟨w1, k1, hcv1, hB1, b1⟩ := bytes_of w x (by have := hx3.out; omega)
  have C1 := Lib.hid (topE_any _ _ _ x w1 hB1 (T.stays b1) _ hA1)
  have B1 := Lib.hid b1
  have RA := Lib.hid R1
  have RB := Lib.hid R2
  have HA2 := Lib.hid hA2
  have HA3 := Lib.hid hA3
  have HA4 := Lib.hid hA4
  have sm1 := Lib.hid (top_sm hA1)
  have sm3 := Lib.hid (top_sm hA3)
  have CH := Lib.hid CC
  subst hp
  have q5 : (q == 4) = false := by simp [hq]
  have q6 : (q != 4) = true := by simp [hq]
  have q3 : decide (q > 4) = true := decide_eq_true hlt
  have q4 : decide (4 < q) = true := decide_eq_true hlt
  clear T EXA hS X0 b1 hB1 R1 R2 hA1 hA2 hA3 hA4 hx hv hv1 CC hzy hzz  hlt  hq
  go_enter Tryz.func9, Tryz.ntmps9
  go_wp2_with fail
  refine FW.out.mono ?_
  rintro e w0 ⟨rfl, rfl⟩
  go_wp2_with fail
  refine C1.out.mono ?_
  rintro e w2 ⟨r, rfl, V, b⟩
  obtain ⟨ua1, uc1, aa1, ac1, rfl, E⟩ := V
  have B2 := Lib.hid (bnext B1.out b)
  have E1 := Lib.hid E
  clear b E C1 FW CV hcv1
  go_wp2_with (refine arm_storeT infX (.tmp 8) (.tmp 32) rfl rfl _ _ _ _ rfl rfl (Blk.new _ _ _) rfl rfl (exC_one _ _ _ _ _) ?_; intro w3 L s3; have b := (balloc (b0 w2) _).trans (s3.below (Nat.le_refl _)); have L3 := Lib.hid L; have F3 := Lib.hid b; have B3 := Lib.hid (bnext B2.out b); clear L s3 b; obtain ⟨w4, k4, hcv4, hB4, b4⟩ := bytes_of w3 v (by have := zv.out; omega); have C4 := Lib.hid (topE_any _ _ _ _ w4 hB4 ((T0.out.stays B3.out).stays b4) _ HA2.out); have B4 := Lib.hid (bnext B3.out b4); have F4 := Lib.hid b4; clear b4 hB4)
  refine C4.out.mono ?_
  rintro e w5 ⟨r, rfl, V, b⟩
  obtain ⟨ua2, uc2, aa2, ac2, rfl, E⟩ := V
  have B5 := Lib.hid (bnext B4.out b)
  have F5 := Lib.hid (bnext F4.out b)
  have E2 := Lib.hid E
  clear b E C4 hcv4 F4 s1 s2
  go_wp2_with (first | (refine arm_storeT infX (.tmp 11) (.tmp 41) rfl rfl _ _ _ _ rfl rfl (Blk.new _ _ _) rfl rfl (exC_one _ _ _ _ _) ?_; intro w6 L s3; have b := (balloc (b0 w5) _).trans (s3.below (Nat.le_refl _)); have L6 := Lib.hid L; have F6 := Lib.hid b; have B6 := Lib.hid (bnext B5.out b); have M6 := Lib.hid (L3.out.below (bnext F5.out b) L3.out.lt); clear L s3 b) | (refine arm_loadG infX Tryz.underlying43 rfl (.tmp 8) rfl (by first | rfl | decide | kernel_rfl) _ _ _ rfl M6.out rfl ?_) | (refine arm_loadG infX Tryz.underlying43 rfl (.tmp 11) rfl (by first | rfl | decide | kernel_rfl) _ _ _ rfl L6.out rfl ?_))
  refine (sameE_any _ _ a1 ua1 aa1 ua2 aa2 uc1 ac1 uc2 ac2 w6 sm1.out.1 sm1.out.2.1 sm1.out.2.2 (E1.out.kp (kp_of (bnext F3.out (bnext F5.out F6.out)))) (E2.out.kp (kp_of F6.out))).mono ?_
  rintro e w7 ⟨rfl, b⟩
  have B7 := Lib.hid (bnext B6.out b)
  clear b M6
  clear L3 L6 E1 E2 F3 F5 F6 B1 B2 B3 B4 B5 B6
  go_wp2_with fail
  refine (RA.out _).mono ?_
  rintro e w8 ⟨rfl, b⟩
  have B8 := Lib.hid (bnext B7.out b)
  clear b
  go_wp2_with fail
  refine (RB.out _).mono ?_
  rintro e w9 ⟨rfl, b⟩
  have B9 := Lib.hid (bnext B8.out b)
  clear b B7 B8 RA RB
  have c1 := CH.out.c1
  have c2 := CH.out.c2
  have c3 := CH.out.c3
  have c4 := CH.out.c4
  obtain ⟨w10, k10, hcv10, hB10, b10⟩ := bytes_of w9 y (by have := zy.out; omega)
  have C10 := Lib.hid (topE_any _ _ _ y w10 hB10 ((T0.out.stays B9.out).stays b10) _ HA3.out)
  have B10 := Lib.hid (bnext B9.out b10)
  clear b10 hB10
  go_wp2_with fail
  refine C10.out.mono ?_
  rintro e w11 ⟨r, rfl, V, b⟩
  obtain ⟨ua3, uc3, aa3, ac3, rfl, E⟩ := V
  have B11 := Lib.hid (bnext B10.out b)
  have E3 := Lib.hid E
  clear b E C10 hcv10  c2 c3 c4
  have d1 := CH.out.d1
  have d2 := CH.out.d2
  have d3 := CH.out.d3
  have d4 := CH.out.d4
  have e2 := CH.out.e2
  have e3 := CH.out.e3
  have e4 := CH.out.e4
  go_wp2_with (refine arm_storeT infX (.tmp 18) (.tmp 75) rfl rfl _ _ _ _ rfl rfl (Blk.new _ _ _) rfl rfl (exC_one _ _ _ _ _) ?_; intro w12 L s3; have b := (balloc (b0 w11) _).trans (s3.below (Nat.le_refl _)); have L12 := Lib.hid L; have F12 := Lib.hid b; have B12 := Lib.hid (bnext B11.out b); clear L s3 b; obtain ⟨w13, k13, hcv13, hB13, b13⟩ := bytes_of w12 yr (by have := zz.out; omega); have C13 := Lib.hid (topE_any _ _ _ _ w13 hB13 ((T0.out.stays B12.out).stays b13) _ HA4.out); have B13 := Lib.hid (bnext B12.out b13); have F13 := Lib.hid b13; clear b13 hB13)
  refine C13.out.mono ?_
  rintro e w14 ⟨r, rfl, V, b⟩
  obtain ⟨ua4, uc4, aa4, ac4, rfl, E⟩ := V
  have B14 := Lib.hid (bnext B13.out b)
  have F14 := Lib.hid (bnext F13.out b)
  have E4 := Lib.hid E
  clear b E C13 hcv13 F13
  go_wp2_with (first | (refine arm_storeT infX (.tmp 22) (.tmp 97) rfl rfl _ _ _ _ rfl rfl (Blk.new _ _ _) rfl rfl (exC_one _ _ _ _ _) ?_; intro w15 L s3; have b := (balloc (b0 w14) _).trans (s3.below (Nat.le_refl _)); have L15 := Lib.hid L; have F15 := Lib.hid b; have B15 := Lib.hid (bnext B14.out b); have M15 := Lib.hid (L12.out.below (bnext F14.out b) L12.out.lt); clear L s3 b) | (refine arm_loadG infX Tryz.underlying43 rfl (.tmp 18) rfl (by first | rfl | decide | kernel_rfl) _ _ _ rfl M15.out rfl ?_) | (refine arm_loadG infX Tryz.underlying43 rfl (.tmp 22) rfl (by first | rfl | decide | kernel_rfl) _ _ _ rfl L15.out rfl ?_))
  refine (sameE_any _ _ a3 ua3 aa3 ua4 aa4 uc3 ac3 uc4 ac4 w15 sm3.out.1 sm3.out.2.1 sm3.out.2.2 (E3.out.kp (kp_of (bnext F12.out (bnext F14.out F15.out)))) (E4.out.kp (kp_of F15.out))).mono ?_
  rintro e w16 ⟨rfl, b⟩
  have B16 := Lib.hid (bnext B15.out b)
  clear b M15
  go_wp2_with fail
  refine (EX.out _ (T0.out.stays B16.out)).mono ?_
  rintro e w17 ⟨rfl, b⟩
  have B17 := Lib.hid (bnext B16.out b)
  clear b
  go_wp2_with fail
  go_ret
  exact ⟨rfl, B17.out⟩
end Go.Proofs.YtkgclmikhpjheaaGreatDoor.pa

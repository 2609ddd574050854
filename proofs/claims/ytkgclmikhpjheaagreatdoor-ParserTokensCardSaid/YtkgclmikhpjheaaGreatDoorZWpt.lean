/-
  ParserTokens: the walk. (Written by g_wpt.py.)
-/
import Derived.Test.YtkgclmikhpjheaaGreatDoorQ15
import Derived.Test.YtkgclmikhpjheaaGreatDoorZJoi
import Derived.Test.YtkgclmikhpjheaaGreatDoorZLrg
import Derived.Test.YtkgclmikhpjheaaGreatDoorZTkp
namespace Go.Proofs.YtkgclmikhpjheaaGreatDoor.pa
open Go.RowKit dec

theorem Mov.kp {C : Nat} {w w' : World} {v : Value} {m : Mo} (h : Mov C w v m) (k : Kp C w w') : Mov C w' v m := by
  obtain ⟨ta, tc, fa, fc, e, R, F⟩ := h
  exact ⟨ta, tc, fa, fc, e, R.kpT (ok := fun _ => True) trivial k fun c x hq => TbQ.kpT trivial trivial hq k, F.kpT (ok := fun _ => True) trivial k fun c x hq => FeQ.kpT trivial trivial hq k⟩
theorem ba_eq {s t : ByteArray} (h : s.data.toList = t.data.toList) : s = t := by rw [← ba_list s, ← ba_list t, h]

set_option maxRecDepth 100000 in
set_option maxHeartbeats 16000000 in
theorem wpt_bad (a0 : Option Addr) (n0 c0 : Nat) (s : ByteArray) (w : World) (hS : Bs w a0 n0 c0 s) (T : Tabs w) (EXA : ExA) (x : ByteArray) (hx : fewS 2000 s = x) (hb : tokB x ≠ []) :
    Calls Tryz.prog 6 #[.slice a0 n0 c0] w fun e w' => e = .returned (.bool true) ∧ Below w.heap.size w w' := by
  have T0 := Lib.hid T
  have EX := Lib.hid EXA
  have hx3 : x.size ≤ 2000 := hx ▸ fewS_size 2000 s
  have FW := Lib.hid (few_any a0 n0 c0 2000 s w hS)
  have X0 := bs_few hS 2000
  rw [hx] at FW X0
  have hE : tokE x = 0 := by unfold tokE; rw [if_neg (by omega)]
  have C1 := Lib.hid (tokens_any a0 x.size c0 x w X0 T)
  unfold TR at C1
  rw [hE] at C1
  have hl : 0 < (tokB x).length := List.length_pos_iff.2 hb
  obtain ⟨k, hk⟩ : ∃ k, (tokB x).length = k := ⟨_, rfl⟩
  rw [hk] at hl
  replace hk := Lib.hid hk
  have q1 : decide ((k : Int) > 0) = true := decide_eq_true (by omega)
  have q2 : decide (0 < (k : Int)) = true := decide_eq_true (by omega)
  have q3 : decide (0 < k) = true := decide_eq_true hl
  clear T EXA hS X0 hx hx3 hE hb
  go_enter Tryz.func6, Tryz.ntmps6
  go_wp2_with fail
  refine FW.out.mono ?_
  rintro e w0 ⟨rfl, rfl⟩
  go_wp2_with fail
  refine C1.out.mono ?_
  rintro e w2 ⟨v, u, rfl, o2, p2, b2⟩
  obtain ⟨al, cl, rfl, sl⟩ := o2.sl
  obtain ⟨ap, cp, rfl, sp⟩ := p2.sl
  have B2 := Lib.hid b2
  clear o2 p2 sl sp b2 C1 FW
  rw [hk.out]
  go_wp2_with fail
  refine (EX.out _ (T0.out.stays B2.out)).mono ?_
  rintro e w3 ⟨rfl, b⟩
  have B3 := Lib.hid (bnext B2.out b)
  clear b
  go_wp2_with fail
  go_ret
  exact ⟨rfl, B3.out⟩
set_option maxRecDepth 100000 in
set_option maxHeartbeats 16000000 in
theorem wpt_good (a0 : Option Addr) (n0 c0 : Nat) (s : ByteArray) (w : World) (hS : Bs w a0 n0 c0 s) (T : Tabs w) (EXA : ExA) (x : ByteArray) (hx : fewS 2000 s = x) (hb : tokB x = []) :
    Calls Tryz.prog 6 #[.slice a0 n0 c0] w fun e w' => e = .returned (.bool true) ∧ Below w.heap.size w w' := by
  have T0 := Lib.hid T
  have EX := Lib.hid EXA
  have hx3 : x.size ≤ 2000 := hx ▸ fewS_size 2000 s
  have FW := Lib.hid (few_any a0 n0 c0 2000 s w hS)
  have X0 := bs_few hS 2000
  rw [hx] at FW X0
  have hE : tokE x = 0 := by unfold tokE; rw [if_neg (by omega)]
  have C1 := Lib.hid (tokens_any a0 x.size c0 x w X0 T)
  unfold TR at C1
  rw [hE] at C1
  obtain ⟨y, hj1, hj2, hy, hyB, SIM⟩ := join_facts x (by omega)
  have hEy : tokE y = 0 := by unfold tokE; rw [if_neg (by omega)]
  obtain ⟨m, p, hm⟩ := modR_some x
  obtain ⟨q, hq, hqp⟩ := mod_sim hb hyB SIM hm
  obtain ⟨ay, hty⟩ := top_sim hE hEy hb hyB SIM
  have mS := Lib.hid (modR_sm (by omega) hm)
  rcases htx : topR (α := Ex) ⟨h0, .nil⟩ exR x with ⟨ex, ax, cx⟩
  rw [htx] at hty
  have eS := Lib.hid (top_sm htx)
  have hF := Lib.hid (few_all (s := x) (by omega))
  have C2 := Lib.hid (fun al nl cl W h t => join_go al nl cl (tokL x) W h hF.out t)
  unfold JR at C2
  rw [hj1, hj2] at C2
  have C3 := Lib.hid (fun W h t => module_any a0 x.size c0 x W (X0.keeps h) t hE m p hm)
  have C7 := Lib.hid (fun W h t => topE_any a0 x.size c0 x W (X0.keeps h) t _ htx)
  have C5 := Lib.hid (fun a c W h t => module_any a y.size c y W h t hEy m q hq)
  have C9 := Lib.hid (fun a c W h t => topE_any a y.size c y W h t _ hty)
  have hlen := Lib.hid (show (tokB x).length = 0 by rw [hb]; rfl)
  have hlp := Lib.hid (show min q.length 32 = min p.length 32 by rw [hqp])
  obtain ⟨lx, hLx⟩ : ∃ k, (tokL x).length = k := ⟨_, rfl⟩
  replace hLx := Lib.hid hLx
  clear T EXA hS hx hx3 hE hb hj1 hj2 hyB SIM hEy hm hq hqp hty htx X0
  go_enter Tryz.func6, Tryz.ntmps6
  go_wp2_with fail
  refine FW.out.mono ?_
  rintro e w0 ⟨rfl, rfl⟩
  go_wp2_with fail
  refine C1.out.mono ?_
  rintro e w2 ⟨v, u, rfl, o2, p2, b2⟩
  obtain ⟨al, cl, rfl, sl⟩ := o2.sl
  obtain ⟨ap, cp, rfl, sp⟩ := p2.sl
  have Dw2 := Lib.hid b2
  have SL := Lib.hid sl
  clear o2 p2 sl sp b2 C1 FW
  rw [hLx.out] at SL ⊢
  rw [hlen.out]
  go_wp2_with fail
  refine (C2.out _ _ _ _ SL.out (T0.out.stays Dw2.out)).mono ?_
  rintro e w3 ⟨z, ay3, cy3, hz, rfl, hY, b⟩
  obtain rfl : z = y := ba_eq hz
  have Dw3 := Lib.hid (bnext Dw2.out b)
  have Y3 := Lib.hid hY
  clear b hz hY C2 SL
  go_wp2_with fail
  refine (C3.out _ Dw3.out (T0.out.stays Dw3.out)).mono ?_
  rintro e w4 ⟨r, u, rfl, V, P, b⟩
  obtain ⟨ta, tc, fa, fc, rfl, RT, RF⟩ := V
  obtain ⟨pp, pa1, pc1, _, _, rfl, _⟩ := P
  have Dw4 := Lib.hid (bnext Dw3.out b)
  have Y4 := Lib.hid (Y3.out.keeps b)
  have M4 := Lib.hid (And.intro RT RF)
  clear b RT RF C3
  go_wp2_with (refine arm_storeT infMo (.tmp 9) (.tmp 47) rfl rfl _ _ _ _ rfl rfl (Blk.new _ _ _) rfl rfl (by simp [Value.oneCell']) ?_; intro u4 L s3; have b := (balloc (b0 w4) _).trans (s3.below (Nat.le_refl _)); have L4 := Lib.hid L; have F4 := Lib.hid b; have D4 := Lib.hid (bnext Dw4.out b); clear L s3 b)
  have Y5 := Lib.hid (Y4.out.keeps F4.out)
  refine (C5.out _ _ _ Y5.out (T0.out.stays D4.out)).mono ?_
  rintro e w6 ⟨r, u, rfl, V, P, b⟩
  obtain ⟨tb, td, fb, fd, rfl, RT, RF⟩ := V
  obtain ⟨qq, pa2, pc2, _, _, rfl, _⟩ := P
  rw [hlp.out]
  have Dw6 := Lib.hid (bnext D4.out b)
  have G6 := Lib.hid b
  have Y6 := Lib.hid (Y5.out.keeps b)
  have M6 := Lib.hid (And.intro RT RF)
  clear b RT RF C5 Y3 Y4 Y5
  go_wp2_with (refine arm_storeT infMo (.tmp 12) (.tmp 53) rfl rfl _ _ _ _ rfl rfl (Blk.new _ _ _) rfl rfl (by simp [Value.oneCell']) ?_; intro u6 L s3; have b := (balloc (b0 w6) _).trans (s3.below (Nat.le_refl _)); have L6 := Lib.hid L; have F6 := Lib.hid b; have D6 := Lib.hid (bnext Dw6.out b); clear L s3 b)
  have Y7 := Lib.hid (Y6.out.keeps F6.out)
  refine (C7.out _ D6.out (T0.out.stays D6.out)).mono ?_
  rintro e w8 ⟨r, rfl, V, b⟩
  obtain ⟨ua1, uc1, aa1, ac1, rfl, E⟩ := V
  have Dw8 := Lib.hid (bnext D6.out b)
  have G8 := Lib.hid b
  have Y8 := Lib.hid (Y7.out.keeps b)
  have E1 := Lib.hid E
  clear b E C7 Y6 Y7
  go_wp2_with (refine arm_storeT infX (.tmp 15) (.tmp 59) rfl rfl _ _ _ _ rfl rfl (Blk.new _ _ _) rfl rfl (exC_one _ _ _ _ _) ?_; intro u8 L s3; have b := (balloc (b0 w8) _).trans (s3.below (Nat.le_refl _)); have L8 := Lib.hid L; have F8 := Lib.hid b; have D8 := Lib.hid (bnext Dw8.out b); clear L s3 b)
  have Y9 := Lib.hid (Y8.out.keeps F8.out)
  refine (C9.out _ _ _ Y9.out (T0.out.stays D8.out)).mono ?_
  rintro e w10 ⟨r, rfl, V, b⟩
  obtain ⟨ua2, uc2, aa2, ac2, rfl, E⟩ := V
  have Dw10 := Lib.hid (bnext D8.out b)
  have G10 := Lib.hid b
  have E2 := Lib.hid E
  clear b E C9 Y8 Y9
  go_wp2_with (first | (refine arm_storeT infX (.tmp 18) (.tmp 65) rfl rfl _ _ _ _ rfl rfl (Blk.new _ _ _) rfl rfl (exC_one _ _ _ _ _) ?_; intro u10 L s3; have b := (balloc (b0 w10) _).trans (s3.below (Nat.le_refl _)); have L10 := Lib.hid L; have F10 := Lib.hid b; have D10 := Lib.hid (bnext Dw10.out b); clear L s3 b; have N4 := Lib.hid (L4.out.below (bnext G6.out (bnext F6.out (bnext G8.out (bnext F8.out (bnext G10.out F10.out))))) L4.out.lt); have N6 := Lib.hid (L6.out.below (bnext G8.out (bnext F8.out (bnext G10.out F10.out))) L6.out.lt)) | (refine arm_loadG infMo Tryz.underlying27 rfl (.tmp 9) rfl (by first | rfl | decide | kernel_rfl) _ _ _ rfl N4.out rfl ?_) | (refine arm_loadG infMo Tryz.underlying27 rfl (.tmp 12) rfl (by first | rfl | decide | kernel_rfl) _ _ _ rfl N6.out rfl ?_))
  have K4 := bnext F4.out (bnext G6.out (bnext F6.out (bnext G8.out (bnext F8.out (bnext G10.out F10.out)))))
  have K6 := bnext F6.out (bnext G8.out (bnext F8.out (bnext G10.out F10.out)))
  refine (sameM_any _ _ m ta tb fa fb tc td fc fd u10 (M4.out.1.kpT (ok := fun _ => True) trivial (kp_of K4) fun c x hq => TbQ.kpT trivial trivial hq (kp_of K4)) (M6.out.1.kpT (ok := fun _ => True) trivial (kp_of K6) fun c x hq => TbQ.kpT trivial trivial hq (kp_of K6)) (M4.out.2.kpT (ok := fun _ => True) trivial (kp_of K4) fun c x hq => FeQ.kpT trivial trivial hq (kp_of K4)) (M6.out.2.kpT (ok := fun _ => True) trivial (kp_of K6) fun c x hq => FeQ.kpT trivial trivial hq (kp_of K6)) mS.out).mono ?_
  rintro e w11 ⟨rfl, b⟩
  have Dw11 := Lib.hid (bnext D10.out b)
  have N8 := Lib.hid (L8.out.below (bnext G10.out (bnext F10.out b)) L8.out.lt)
  have N10 := Lib.hid (L10.out.below b L10.out.lt)
  have G11 := Lib.hid b
  clear b K4 K6 M4 M6 N4 N6 L4 L6
  go_wp2_with (first | (refine arm_loadG infX Tryz.underlying43 rfl (.tmp 15) rfl (by first | rfl | decide | kernel_rfl) _ _ _ rfl N8.out rfl ?_) | (refine arm_loadG infX Tryz.underlying43 rfl (.tmp 18) rfl (by first | rfl | decide | kernel_rfl) _ _ _ rfl N10.out rfl ?_))
  refine (sameE_any _ _ ex ua1 aa1 ua2 aa2 uc1 ac1 uc2 ac2 w11 eS.out.1 eS.out.2.1 eS.out.2.2 (E1.out.kp (kp_of (bnext F8.out (bnext G10.out (bnext F10.out G11.out))))) (E2.out.kp (kp_of (bnext F10.out G11.out)))).mono ?_
  rintro e w12 ⟨rfl, b⟩
  have Dw12 := Lib.hid (bnext Dw11.out b)
  clear b N8 N10
  go_wp2_with fail
  refine (EX.out _ (T0.out.stays Dw12.out)).mono ?_
  rintro e w13 ⟨rfl, b⟩
  have Dw13 := Lib.hid (bnext Dw12.out b)
  clear b
  go_wp2_with fail
  go_ret
  exact ⟨rfl, Dw13.out⟩
theorem walk_ptokens (a0 : Option Addr) (n0 c0 : Nat) (s : ByteArray) (w : World) (hS : Bs w a0 n0 c0 s) (T : Tabs w) (EXA : ExA) :
    Calls Tryz.prog 6 #[.slice a0 n0 c0] w fun e w' => e = .returned (.bool true) ∧ Below w.heap.size w w' := by
  by_cases hb : tokB (fewS 2000 s) = []
  · exact wpt_good a0 n0 c0 s w hS T EXA _ rfl hb
  · exact wpt_bad a0 n0 c0 s w hS T EXA _ rfl hb
end Go.Proofs.YtkgclmikhpjheaaGreatDoor.pa

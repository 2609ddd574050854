/-
  ParserItems: the walk, a first source without problems; the walk, whole. (Written by g_wit.py.)
-/
import Derived.Test.YtkgclmikhpjheaaGreatDoorVWia
namespace Go.Proofs.YtkgclmikhpjheaaGreatDoor.pa
open Go.RowKit dec

set_option maxRecDepth 100000 in
set_option maxHeartbeats 16000000 in
theorem wit_good (a0 : Option Addr) (n0 c0 : Nat) (s0 : ByteArray) (a1 : Option Addr) (n1 c1 : Nat) (s1 : ByteArray) (w : World) (hS0 : Bs w a0 n0 c0 s0) (hS1 : Bs w a1 n1 c1 s1) (T : Tabs w) (EXA : ExA) (x y : ByteArray) (hx : fewS 1000 s0 = x) (hy : fewS 1000 s1 = y)
    (m n : Mo) (p q : List Pb) (hm : modR x = some (m, p)) (hn : modR y = some (n, q)) (hp : p = []) :
    Calls Tryz.prog 7 #[.slice a0 n0 c0, .slice a1 n1 c1] w fun e w' => e = .returned (.bool true) ∧ Below w.heap.size w w' := by
  have T0 := Lib.hid T
  have EX := Lib.hid EXA
  have hx3 : x.size ≤ 1000 := hx ▸ fewS_size 1000 s0
  have hy3 : y.size ≤ 1000 := hy ▸ fewS_size 1000 s1
  have FW := Lib.hid (few_any a0 n0 c0 1000 s0 w hS0)
  have FY := Lib.hid (few_any a1 n1 c1 1000 s1 w hS1)
  have X0 := bs_few hS0 1000
  have Y0 := bs_few hS1 1000
  rw [hx] at FW X0
  rw [hy] at FY Y0
  have hE : tokE x = 0 := by unfold tokE; rw [if_neg (by omega)]
  have hF : tokE y = 0 := by unfold tokE; rw [if_neg (by omega)]
  have C1 := Lib.hid (fun W h t => module_any a0 x.size c0 x W (X0.keeps h) t hE m p hm)
  have C2 := Lib.hid (fun W h t => module_any a1 y.size c1 y W (Y0.keeps h) t hF n q hn)
  obtain ⟨z, hz⟩ : ∃ z : ByteArray, z.data.toList = [] ++ x.data.toList ++ [10] ++ y.data.toList := ⟨⟨([] ++ x.data.toList ++ [10] ++ y.data.toList).toArray⟩, rfl⟩
  have hz2 : z.data.toList = x.data.toList ++ 10 :: y.data.toList := by rw [hz]; simp
  have hzs : z.size ≤ 2100 := by rw [← str_len, hz]; simp only [List.length_append, List.length_nil, List.length_cons, str_len]; omega
  subst hp
  have hR := items_ok hz2 (by omega) hm hn
  have hEz : tokE z = 0 := by unfold tokE; rw [if_neg (by omega)]
  have C3 := Lib.hid (fun a c W h t => module_any a z.size c z W h t hEz _ _ hR)
  have zS := Lib.hid (modR_sm (by omega) hR)
  have K1 := Lib.hid (show min ([] : List Pb).length 32 = 0 from rfl)
  obtain ⟨k2, hk2⟩ : ∃ k, min q.length 32 = k := ⟨_, rfl⟩
  have hk3 : k2 ≤ 32 := by omega
  have K2 := Lib.hid hk2
  have K3 := Lib.hid hk3
  have PD := Lib.hid (prob_dis (by omega) hn)
  have PI := Lib.hid (prob_in (by omega) hn)
  have mS := Lib.hid (modR_sm (by omega) hm)
  have nS := Lib.hid (modR_sm (by omega) hn)
  have HLm := Lib.hid (show m.ts.length + n.ts.length + (m.fs.length + n.fs.length) < 1048577 from by have := modR_few (by omega) hm; have := modR_few (by omega) hn; omega)
  have ZX := Lib.hid (And.intro hx3 hy3)
  have XB := Lib.hid (And.intro X0 Y0)
  have hz3 := Lib.hid hz
  have ZL := Lib.hid (show ([] : List UInt8).length + x.size < 140737488355328 ∧ (([] : List UInt8) ++ x.data.toList).length < 140737488355328 ∧ (([] : List UInt8) ++ x.data.toList ++ [10]).length + y.size < 140737488355328 by simp only [List.length_append, List.length_nil, List.length_cons, str_len]; omega)
  clear T EXA hS0 hS1 hx hy hx3 hy3 X0 Y0 hE hF hm hn hz hz2 hzs hR hEz hk2 hk3
  go_enter Tryz.func7, Tryz.ntmps7
  go_wp2_with fail
  refine FW.out.mono ?_
  rintro e w0 ⟨rfl, rfl⟩
  go_wp2_with fail
  refine FY.out.mono ?_
  rintro e w0' ⟨rfl, rfl⟩
  go_wp2_with fail
  refine (C1.out _ (b0 _) T0.out).mono ?_
  rintro e w4 ⟨r1, u, rfl, V, P, b⟩
  obtain ⟨ta, tc, fa, fc, rfl, RT, RF⟩ := V
  obtain ⟨pp, pa1, pc1, _, _, rfl, _⟩ := P
  rw [K1.out]
  have Dw4 := Lib.hid b
  have M4 := Lib.hid (And.intro RT RF)
  clear b RT RF C1 FW FY
  go_wp2_with (refine arm_storeT infMo (.tmp 7) (.tmp 26) rfl rfl _ _ _ _ rfl rfl (Blk.new _ _ _) rfl rfl (by simp [Value.oneCell']) ?_; intro u4 L s3; have b := (balloc (b0 w4) _).trans (s3.below (Nat.le_refl _)); have L4 := Lib.hid L; have F4 := Lib.hid b; have D4 := Lib.hid (bnext Dw4.out b); clear L s3 b)
  refine (C2.out _ D4.out (T0.out.stays D4.out)).mono ?_
  rintro e w6 ⟨r1, u, rfl, V, P, b⟩
  obtain ⟨tb, td, fb, fd, rfl, RS, RG⟩ := V
  obtain ⟨p2, pa2, pc2, hp2, hw2, rfl, SP2⟩ := P
  rw [K2.out] at SP2
  rw [K2.out]
  have HP2 := Lib.hid (And.intro hp2 hw2)
  have SU2 := Lib.hid SP2
  clear hp2 hw2 SP2
  have Dw6 := Lib.hid (bnext D4.out b)
  have G6 := Lib.hid b
  have M6 := Lib.hid (And.intro RS RG)
  clear b RS RG C2
  go_wp2_with (first | (refine arm_storeT infMo (.tmp 10) (.tmp 32) rfl rfl _ _ _ _ rfl rfl (Blk.new _ _ _) rfl rfl (by simp [Value.oneCell']) ?_; intro u6 L s3; have b := (balloc (b0 w6) _).trans (s3.below (Nat.le_refl _)); have L6 := Lib.hid L; have F6 := Lib.hid b; have D6 := Lib.hid (bnext Dw6.out b); clear L s3 b) | (at_builtin; first | (refine is_appB (.tmp 55) (.tmp 56) rfl ?_; refine wpList_plain rfl (fun K hK => ?_); refine wp_catB _ (.tmp 55) (.tmp 56) rfl u6.heap.size (.slice (some ⟨u6.heap.size, 0, none⟩) 0 0) [] rfl (ob_lit u6 u6.heap.size (Nat.le_refl _)) a0 x.size c0 x rfl (XB.out.1.keeps (balloc D6.out (.cells #[] 5))) ZL.out.1 (balloc (b0 u6) (.cells #[] 5)).size ?_; intro v7 w7 O7 b7 g7; have B7 := Lib.hid ((balloc (b0 u6) (.cells #[] 5)).trans b7); have P7 := Lib.hid O7; clear O7 b7 g7; refine hK _ _ ?_) | (refine is_appB (.tmp 57) (.tmp 58) rfl ?_; refine wpList_plain rfl (fun K hK => ?_); refine wp_pushO _ (.tmp 57) (.tmp 58) rfl u6.heap.size v7 _ rfl (P7.out.keeps (balloc (b0 w7) (.cells #[.int .u8 10] 5))) w7.heap.size 10 rfl (by simp [go_sem]) ZL.out.2.1 (balloc B7.out (.cells #[.int .u8 10] 5)).size ?_; intro v9 w9 O9 b9; have B9 := Lib.hid ((balloc B7.out (.cells #[.int .u8 10] 5)).trans b9); have P9 := Lib.hid O9; clear O9 b9; refine hK _ _ ?_) | (refine is_appB (.tmp 59) (.tmp 60) rfl ?_; refine wpList_plain rfl (fun K hK => ?_); refine wp_catB _ (.tmp 59) (.tmp 60) rfl u6.heap.size v9 _ rfl P9.out a1 y.size c1 y rfl (XB.out.2.keeps (bnext D6.out B9.out)) ZL.out.2.2 B9.out.size ?_; intro v10 w10 O10 b10 g10; have B10 := Lib.hid (B9.out.trans b10); have P10 := Lib.hid O10; clear O10 b10 g10; refine hK _ _ ?_)))
  obtain ⟨az, cz, rfl, BZ⟩ := (show OB w10 u6.heap.size v10 z.data.toList from hz3.out ▸ P10.out).bs
  have Dw10 := Lib.hid (bnext D6.out B10.out)
  refine (C3.out az cz w10 BZ (T0.out.stays Dw10.out)).mono ?_
  rintro e w11 ⟨r1, u, rfl, V, P, b⟩
  obtain ⟨tz, tzc, fz, fzc, rfl, RZ, RY⟩ := V
  obtain ⟨pp9, a9, c9, hp9, hw9, rfl, SP9⟩ := P
  rw [List.length_map, K2.out] at SP9
  rw [List.length_map, K2.out]
  have e9 := shift_srt HP2.out.1 hp9 HP2.out.2 hw9 PD.out
  subst e9
  have SU9 := Lib.hid SP9
  have Dw11 := Lib.hid (bnext Dw10.out b)
  have Fw11 := Lib.hid (bnext B10.out b)
  have MZ := Lib.hid (And.intro RZ RY)
  clear b SP9 hp9 hw9 RZ RY C3 BZ P7 P9 P10 B7 B9 B10 Dw10 hz3 XB ZL PD
  go_wp2_with (refine arm_storeT infMo (.tmp 14) (.tmp 65) rfl rfl _ _ _ _ rfl rfl (Blk.new _ _ _) rfl rfl (by simp [Value.oneCell']) ?_; intro u11 L s3; have b := (balloc (b0 w11) _).trans (s3.below (Nat.le_refl _)); have L11 := Lib.hid L; have F11 := Lib.hid b; have D11 := Lib.hid (bnext Dw11.out b); clear L s3 b)
  obtain ⟨lT, hlT⟩ : ∃ l, l = m.ts ++ n.ts := ⟨_, rfl⟩
  obtain ⟨lF, hlF⟩ : ∃ l, l = m.fs ++ n.fs := ⟨_, rfl⟩
  replace hlT := Lib.hid hlT
  replace hlF := Lib.hid hlF
  have K4 := bnext (bnext (bnext (bnext F4.out G6.out) F6.out) Fw11.out) F11.out
  have K6 := bnext (bnext F6.out Fw11.out) F11.out
  have LM := Lib.hid (show Blk u11 w4.heap.size 27 #[.slice ta m.ts.length tc, .slice fa m.fs.length fc] from L4.out.below (bnext (bnext (bnext G6.out F6.out) Fw11.out) F11.out) L4.out.lt)
  have LN := Lib.hid (show Blk u11 w6.heap.size 27 #[.slice tb n.ts.length td, .slice fb n.fs.length fd] from L6.out.below (bnext Fw11.out F11.out) L6.out.lt)
  have hM : m.app n = ⟨lT, lF⟩ := by rw [hlT.out, hlF.out]; rfl
  have LMt := Lib.hid LM.out.tg
  have LMu := Lib.hid LM.out
  have LZ := Lib.hid (show Blk u11 w11.heap.size 27 #[.slice tz lT.length tzc, .slice fz lF.length fzc] from by have h := L11.out; rw [hM] at h; exact h)
  have zT := Lib.hid (show Mo.sm ⟨lT, lF⟩ from by have h := zS.out; rw [hM] at h; exact h)
  have hgm := Lib.hid (show w0'.heap.size ≤ w4.heap.size ∧ w4.heap.size < w6.heap.size ∧ w6.heap.size < u6.heap.size ∧ u6.heap.size ≤ w11.heap.size from ⟨Dw4.out.size, Nat.lt_of_lt_of_le L4.out.lt G6.out.size, L6.out.lt, Fw11.out.size⟩)
  replace SU2 := Lib.hid (SU2.out.keeps K6)
  replace SU9 := Lib.hid (SU9.out.keeps F11.out)
  have RT1 := Lib.hid ((M4.out.1.kpT (ok := fun _ => True) trivial (kp_of K4) fun c x hq => TbQ.kpT trivial trivial hq (kp_of K4)).less (Nat.zero_le _) fun c x hq => hq.less (Nat.zero_le _))
  have RF1 := Lib.hid ((M4.out.2.kpT (ok := fun _ => True) trivial (kp_of K4) fun c x hq => FeQ.kpT trivial trivial hq (kp_of K4)).less (Nat.zero_le _) fun c x hq => hq.less (Nat.zero_le _))
  have RT2 := Lib.hid ((M6.out.1.kpT (ok := fun _ => True) trivial (kp_of K6) fun c x hq => TbQ.kpT trivial trivial hq (kp_of K6)).less (Nat.zero_le _) fun c x hq => hq.less (Nat.zero_le _))
  have RF2 := Lib.hid ((M6.out.2.kpT (ok := fun _ => True) trivial (kp_of K6) fun c x hq => FeQ.kpT trivial trivial hq (kp_of K6)).less (Nat.zero_le _) fun c x hq => hq.less (Nat.zero_le _))
  have RT3 := Lib.hid (show RowAt 93 4 0 (TbQ 0) u11 tz lT from by have h := (MZ.out.1.kpT (ok := fun _ => True) trivial (kp_of F11.out) fun c x hq => TbQ.kpT trivial trivial hq (kp_of F11.out)).less (Q' := TbQ 0) (Nat.zero_le _) fun c x hq => hq.less (Nat.zero_le _); rw [hM] at h; exact h)
  have RF3 := Lib.hid (show RowAt 96 18 0 (FeQ 0) u11 fz lF from by have h := (MZ.out.2.kpT (ok := fun _ => True) trivial (kp_of F11.out) fun c x hq => FeQ.kpT trivial trivial hq (kp_of F11.out)).less (Q' := FeQ 0) (Nat.zero_le _) fun c x hq => hq.less (Nat.zero_le _); rw [hM] at h; exact h)
  clear K4 K6 M4 M6 MZ L4 L6 L11 F4 G6 F6 Fw11 D4 Dw4 Dw6 D6 Dw11 hM zS
  obtain ⟨ds1, hl1, hk1, ho1, S1, Q1⟩ := src_of RT1.out (fun c x h => (tb_one h).1) (fun c x h => (tb_one h).2)
  obtain ⟨ds2, hl2, hk2, ho2, S2, Q2⟩ := src_of RT2.out (fun c x h => (tb_one h).1) (fun c x h => (tb_one h).2)
  have H1 := Lib.hid (And.intro hl1 (And.intro hk1 ho1))
  have H2 := Lib.hid (And.intro hl2 (And.intro hk2 ho2))
  replace S1 := Lib.hid S1
  replace S2 := Lib.hid S2
  replace Q1 := Lib.hid Q1
  replace Q2 := Lib.hid Q2
  have HL := Lib.hid (show m.ts.length + n.ts.length < 1048577 from by have := mS.out.1; have := nS.out.1; have := HLm.out; omega)
  clear hl1 hk1 ho1 hl2 hk2 ho2
  have cN := LN.out.cell 0
  simp only [List.getElem?_toArray, List.getElem?_cons_zero] at cN
  replace cN := Lib.hid cN
  go_cut [68] from 68 (fun _ wx => ∃ (a : Option Addr) (c : Nat), Hid (Blk wx w4.heap.size 27 #[.slice a lT.length c, .slice fa m.fs.length fc]) ∧ Hid (RowAt 93 4 0 (TbQ 0) wx a lT) ∧ Hid (Ov w4.heap.size u11 wx))
  case first =>
    refine wp_region_held_drew (S := fun w' => w'.cell? ⟨w6.heap.size, 0, none⟩ = some (.slice tb n.ts.length td)) (by kernel_rfl) cN.out (fun hH => ?_)
    refine held_take (i := 1) (d := 69) (v := ?_) rfl (by kernel_rfl) (by kernel_rfl) (by kernel_rfl) rfl (fun _ _ _ h => h) rfl hH (fun w' hS => ?_) ?_
    rotate_left
    · go_simp; first | done | with_reducible rfl
    simp only [List.set_cons_zero, List.set_cons_succ]
    refine held_take (i := 4) (d := 72) (v := ?_) rfl (by kernel_rfl) (by kernel_rfl) (by kernel_rfl) rfl (fun _ _ _ h => h) rfl hH (fun w' hS => ?_) ?_
    rotate_left
    · go_simp; first | done | with_reducible rfl
    simp only [List.set_cons_zero, List.set_cons_succ]
    refine held_take (i := 5) (d := 73) (v := ?_) rfl (by kernel_rfl) (by kernel_rfl) (by kernel_rfl) rfl (fun _ _ _ h => h) rfl hH (fun w' hS => ?_) ?_
    rotate_left
    · have e1 := hS; go_simp; first | done | with_reducible rfl
    simp only [List.set_cons_zero, List.set_cons_succ]
    have BX := Lib.hid (b0 u11).drew
    generalize u11.drew = x0 at *
    refine held_two (i := 0) (j := 2) rfl rfl (by kernel_rfl) rfl rfl (fun K hK => ?_) (fun K hK => ?_)
    · go_simp
      refine hK.out _ _ (keeps (balloc (b0 x0) (.cells #[] 93)) hH) (fun hH => ?_)
      clear hK K
      have R1 := Lib.hid (rw_lit 93 4 x0 u11.heap.size BX.out.size)
      replace BX := Lib.hid (balloc BX.out (.cells #[] 93))
      generalize (x0.alloc (.cells #[] 93)) = x1 at *
      refine held_only (i := 2) rfl (by kernel_rfl) rfl (fun K hK => ?_)
      have e2 := (LM.out.below BX.out LM.out.lt).cell 0
      simp only [List.getElem?_toArray, List.getElem?_cons_zero] at e2
      go_simp
      refine hK.out _ _ hH (fun hH => ?_)
      clear hK K e2
      refine held_only (i := 3) rfl (by kernel_rfl) rfl (fun K hK => ?_)
      refine wp_catR infTables _ (.tmp 68) (.tmp 70) rfl u11.heap.size (.slice (some ⟨x0.heap.size, 0, none⟩) 0 0) [] rfl R1.out ta m.ts.length tc ds1 rfl (S1.out.keeps BX.out) H1.out.1 H1.out.2.1 H1.out.2.2 (by have := HL.out; simp; omega) BX.out.size ?_
      intro v1 y1 P1 b1 g1
      rw [List.nil_append] at P1
      have q1 := (b1.cell (p := ⟨w6.heap.size, 0, none⟩) LN.out.lt).trans hH
      refine hK.out _ _ q1 (fun hH => ?_)
      clear hK K q1 g1
      replace P1 := Lib.hid P1
      replace BX := Lib.hid (BX.out.trans b1)
      clear b1
      refine held_only (i := 6) rfl (by kernel_rfl) rfl (fun K hK => ?_)
      refine wp_catR infTables _ (.tmp 71) (.tmp 73) rfl u11.heap.size v1 ds1 rfl P1.out tb n.ts.length td ds2 rfl (S2.out.keeps BX.out) H2.out.1 H2.out.2.1 H2.out.2.2 (by have := HL.out; have := H1.out.1; omega) BX.out.size ?_
      intro v2 y2 P2 b2 g2
      have q1 := (b2.cell (p := ⟨w6.heap.size, 0, none⟩) LN.out.lt).trans hH
      refine hK.out _ _ q1 (fun hH => ?_)
      clear hK K q1 g2
      replace BX := Lib.hid (BX.out.trans b2)
      clear b2
      obtain ⟨a2, c2, hv2, RR⟩ := P2.row (l := m.ts ++ n.ts) (Q := TbQ 0) (by rw [List.length_append, List.length_append, H1.out.1, H2.out.1]) (q_app H1.out.1 (fun j h1 h2 => TbQ.kpT trivial trivial (Q1.out j h1 h2) (kp_of BX.out)) (fun j h1 h2 => TbQ.kpT trivial trivial (Q2.out j h1 h2) (kp_of BX.out)))
      rw [← hlT.out] at hv2 RR
      subst hv2
      have eM := LM.out.below BX.out LM.out.lt
      have e3 := eM.cell 0
      have z3 := eM.free 0
      simp only [List.getElem?_toArray, List.getElem?_cons_zero] at e3
      have st := eM.setCell 0 (.slice a2 lT.length c2)
      replace RR := Lib.hid RR
      replace st := Lib.hid st
      replace eM := Lib.hid eM
      refine held_take (i := 7) (d := 75) (v := ?_) rfl (by kernel_rfl) (by kernel_rfl) (by kernel_rfl) rfl (fun _ _ _ h => h) rfl hH (fun w' hS => ?_) ?_
      rotate_left
      · go_simp; first | done | with_reducible rfl
      simp only
      refine held_only (i := 8) rfl (by kernel_rfl) rfl (fun K hK => ?_)
      go_simp
      refine hK.out _ _ ((World.cell?_setCell_other _ _ _ _ (fun h => by have := congrArg Addr.block h; have := hgm.out; simp only at *; omega)).trans hH) (fun hH => ?_)
      clear hK K e3 z3
      refine wpAnyH_done (by kernel_rfl) ?_ _
      go_wp2_with fail
      go_meet
      case rel => exact ⟨a2, c2, Lib.hid st.out.1, Lib.hid ((RR.out.kpT (ok := fun T => T ≠ 27) (by decide) ((Ov.st st.out.2).kpT eM.out.tg) fun c x hq => TbQ.kpT (by decide) (by decide) hq ((Ov.st st.out.2).kpT eM.out.tg)).less (Nat.zero_le _) fun c x hq => hq), Lib.hid ((Ov.of BX.out).trans (Ov.st st.out.2))⟩
    · have e2 := (LM.out.below BX.out LM.out.lt).cell 0
      simp only [List.getElem?_toArray, List.getElem?_cons_zero] at e2
      go_simp
      refine hK.out _ _ hH (fun hH => ?_)
      clear hK K e2
      refine held_only (i := 0) rfl (by kernel_rfl) rfl (fun K hK => ?_)
      go_simp
      refine hK.out _ _ (keeps (balloc (b0 x0) (.cells #[] 93)) hH) (fun hH => ?_)
      clear hK K
      have R1 := Lib.hid (rw_lit 93 4 x0 u11.heap.size BX.out.size)
      replace BX := Lib.hid (balloc BX.out (.cells #[] 93))
      generalize (x0.alloc (.cells #[] 93)) = x1 at *
      refine held_only (i := 3) rfl (by kernel_rfl) rfl (fun K hK => ?_)
      refine wp_catR infTables _ (.tmp 68) (.tmp 70) rfl u11.heap.size (.slice (some ⟨x0.heap.size, 0, none⟩) 0 0) [] rfl R1.out ta m.ts.length tc ds1 rfl (S1.out.keeps BX.out) H1.out.1 H1.out.2.1 H1.out.2.2 (by have := HL.out; simp; omega) BX.out.size ?_
      intro v1 y1 P1 b1 g1
      rw [List.nil_append] at P1
      have q1 := (b1.cell (p := ⟨w6.heap.size, 0, none⟩) LN.out.lt).trans hH
      refine hK.out _ _ q1 (fun hH => ?_)
      clear hK K q1 g1
      replace P1 := Lib.hid P1
      replace BX := Lib.hid (BX.out.trans b1)
      clear b1
      refine held_only (i := 6) rfl (by kernel_rfl) rfl (fun K hK => ?_)
      refine wp_catR infTables _ (.tmp 71) (.tmp 73) rfl u11.heap.size v1 ds1 rfl P1.out tb n.ts.length td ds2 rfl (S2.out.keeps BX.out) H2.out.1 H2.out.2.1 H2.out.2.2 (by have := HL.out; have := H1.out.1; omega) BX.out.size ?_
      intro v2 y2 P2 b2 g2
      have q1 := (b2.cell (p := ⟨w6.heap.size, 0, none⟩) LN.out.lt).trans hH
      refine hK.out _ _ q1 (fun hH => ?_)
      clear hK K q1 g2
      replace BX := Lib.hid (BX.out.trans b2)
      clear b2
      obtain ⟨a2, c2, hv2, RR⟩ := P2.row (l := m.ts ++ n.ts) (Q := TbQ 0) (by rw [List.length_append, List.length_append, H1.out.1, H2.out.1]) (q_app H1.out.1 (fun j h1 h2 => TbQ.kpT trivial trivial (Q1.out j h1 h2) (kp_of BX.out)) (fun j h1 h2 => TbQ.kpT trivial trivial (Q2.out j h1 h2) (kp_of BX.out)))
      rw [← hlT.out] at hv2 RR
      subst hv2
      have eM := LM.out.below BX.out LM.out.lt
      have e3 := eM.cell 0
      have z3 := eM.free 0
      simp only [List.getElem?_toArray, List.getElem?_cons_zero] at e3
      have st := eM.setCell 0 (.slice a2 lT.length c2)
      replace RR := Lib.hid RR
      replace st := Lib.hid st
      replace eM := Lib.hid eM
      refine held_take (i := 7) (d := 75) (v := ?_) rfl (by kernel_rfl) (by kernel_rfl) (by kernel_rfl) rfl (fun _ _ _ h => h) rfl hH (fun w' hS => ?_) ?_
      rotate_left
      · go_simp; first | done | with_reducible rfl
      simp only
      refine held_only (i := 8) rfl (by kernel_rfl) rfl (fun K hK => ?_)
      go_simp
      refine hK.out _ _ ((World.cell?_setCell_other _ _ _ _ (fun h => by have := congrArg Addr.block h; have := hgm.out; simp only at *; omega)).trans hH) (fun hH => ?_)
      clear hK K e3 z3
      refine wpAnyH_done (by kernel_rfl) ?_ _
      go_wp2_with fail
      go_meet
      case rel => exact ⟨a2, c2, Lib.hid st.out.1, Lib.hid ((RR.out.kpT (ok := fun T => T ≠ 27) (by decide) ((Ov.st st.out.2).kpT eM.out.tg) fun c x hq => TbQ.kpT (by decide) (by decide) hq ((Ov.st st.out.2).kpT eM.out.tg)).less (Nat.zero_le _) fun c x hq => hq), Lib.hid ((Ov.of BX.out).trans (Ov.st st.out.2))⟩
  case rest =>
    obtain ⟨ta9, tc9, LMd, RTd, OVd⟩ := hcut
    generalize wc = wd at *
    have LNd := Lib.hid (OVd.out.blk LN.out (by have := hgm.out; omega))
    have KV := OVd.out.kpT (C := 0) LM.out.tg
    have RF1d := Lib.hid (RF1.out.kpT (ok := fun T => T ≠ 27) (by decide) KV fun c x hq => FeQ.kpT (by decide) (by decide) hq KV)
    have RF2d := Lib.hid (RF2.out.kpT (ok := fun T => T ≠ 27) (by decide) KV fun c x hq => FeQ.kpT (by decide) (by decide) hq KV)
    clear KV RF1 RF2 RT1 RT2 S1 S2 Q1 Q2 H1 H2 HL cN LN LM
    have LM := LMd
    have LN := LNd
    have LMs := Lib.hid LM.out.tg
    have RF1 := RF1d
    have RF2 := RF2d
    clear LMd LNd RF1d RF2d
    go_wp2_with fail
    obtain ⟨ds1, hl1, hk1, ho1, S1, Q1⟩ := src_of RF1.out (fun c x h => (fe_one h).1) (fun c x h => (fe_one h).2)
    obtain ⟨ds2, hl2, hk2, ho2, S2, Q2⟩ := src_of RF2.out (fun c x h => (fe_one h).1) (fun c x h => (fe_one h).2)
    have H1 := Lib.hid (And.intro hl1 (And.intro hk1 ho1))
    have H2 := Lib.hid (And.intro hl2 (And.intro hk2 ho2))
    replace S1 := Lib.hid S1
    replace S2 := Lib.hid S2
    replace Q1 := Lib.hid Q1
    replace Q2 := Lib.hid Q2
    have HL := Lib.hid (show m.fs.length + n.fs.length < 1048577 from by have := mS.out.1; have := nS.out.1; have := HLm.out; omega)
    clear hl1 hk1 ho1 hl2 hk2 ho2
    have cN := LN.out.cell 1
    simp only [List.getElem?_toArray, List.getElem?_cons_zero, List.getElem?_cons_succ] at cN
    replace cN := Lib.hid cN
    go_cut [76] from 76 (fun _ wx => ∃ (a : Option Addr) (c : Nat), Hid (Blk wx w4.heap.size 27 #[.slice ta9 lT.length tc9, .slice a lF.length c]) ∧ Hid (RowAt 96 18 0 (FeQ 0) wx a lF) ∧ Hid (Ov w4.heap.size wd wx))
    case first =>
      refine wp_region_held_drew (S := fun w' => w'.cell? ⟨w6.heap.size, 1, none⟩ = some (.slice fb n.fs.length fd)) (by kernel_rfl) cN.out (fun hH => ?_)
      refine held_take (i := 1) (d := 77) (v := ?_) rfl (by kernel_rfl) (by kernel_rfl) (by kernel_rfl) rfl (fun _ _ _ h => h) rfl hH (fun w' hS => ?_) ?_
      rotate_left
      · go_simp; first | done | with_reducible rfl
      simp only [List.set_cons_zero, List.set_cons_succ]
      refine held_take (i := 4) (d := 80) (v := ?_) rfl (by kernel_rfl) (by kernel_rfl) (by kernel_rfl) rfl (fun _ _ _ h => h) rfl hH (fun w' hS => ?_) ?_
      rotate_left
      · go_simp; first | done | with_reducible rfl
      simp only [List.set_cons_zero, List.set_cons_succ]
      refine held_take (i := 5) (d := 81) (v := ?_) rfl (by kernel_rfl) (by kernel_rfl) (by kernel_rfl) rfl (fun _ _ _ h => h) rfl hH (fun w' hS => ?_) ?_
      rotate_left
      · have e1 := hS; go_simp; first | done | with_reducible rfl
      simp only [List.set_cons_zero, List.set_cons_succ]
      have BX := Lib.hid (b0 wd).drew
      generalize wd.drew = x0 at *
      refine held_two (i := 0) (j := 2) rfl rfl (by kernel_rfl) rfl rfl (fun K hK => ?_) (fun K hK => ?_)
      · go_simp
        refine hK.out _ _ (keeps (balloc (b0 x0) (.cells #[] 96)) hH) (fun hH => ?_)
        clear hK K
        have R1 := Lib.hid (rw_lit 96 18 x0 wd.heap.size BX.out.size)
        replace BX := Lib.hid (balloc BX.out (.cells #[] 96))
        generalize (x0.alloc (.cells #[] 96)) = x1 at *
        refine held_only (i := 2) rfl (by kernel_rfl) rfl (fun K hK => ?_)
        have e2 := (LM.out.below BX.out LM.out.lt).cell 1
        simp only [List.getElem?_toArray, List.getElem?_cons_zero, List.getElem?_cons_succ] at e2
        go_simp
        refine hK.out _ _ hH (fun hH => ?_)
        clear hK K e2
        refine held_only (i := 3) rfl (by kernel_rfl) rfl (fun K hK => ?_)
        refine wp_catR infFeatures _ (.tmp 76) (.tmp 78) rfl wd.heap.size (.slice (some ⟨x0.heap.size, 0, none⟩) 0 0) [] rfl R1.out fa m.fs.length fc ds1 rfl (S1.out.keeps BX.out) H1.out.1 H1.out.2.1 H1.out.2.2 (by have := HL.out; simp; omega) BX.out.size ?_
        intro v1 y1 P1 b1 g1
        rw [List.nil_append] at P1
        have q1 := (b1.cell (p := ⟨w6.heap.size, 1, none⟩) LN.out.lt).trans hH
        refine hK.out _ _ q1 (fun hH => ?_)
        clear hK K q1 g1
        replace P1 := Lib.hid P1
        replace BX := Lib.hid (BX.out.trans b1)
        clear b1
        refine held_only (i := 6) rfl (by kernel_rfl) rfl (fun K hK => ?_)
        refine wp_catR infFeatures _ (.tmp 79) (.tmp 81) rfl wd.heap.size v1 ds1 rfl P1.out fb n.fs.length fd ds2 rfl (S2.out.keeps BX.out) H2.out.1 H2.out.2.1 H2.out.2.2 (by have := HL.out; have := H1.out.1; omega) BX.out.size ?_
        intro v2 y2 P2 b2 g2
        have q1 := (b2.cell (p := ⟨w6.heap.size, 1, none⟩) LN.out.lt).trans hH
        refine hK.out _ _ q1 (fun hH => ?_)
        clear hK K q1 g2
        replace BX := Lib.hid (BX.out.trans b2)
        clear b2
        obtain ⟨a2, c2, hv2, RR⟩ := P2.row (l := m.fs ++ n.fs) (Q := FeQ 0) (by rw [List.length_append, List.length_append, H1.out.1, H2.out.1]) (q_app H1.out.1 (fun j h1 h2 => FeQ.kpT trivial trivial (Q1.out j h1 h2) (kp_of BX.out)) (fun j h1 h2 => FeQ.kpT trivial trivial (Q2.out j h1 h2) (kp_of BX.out)))
        rw [← hlF.out] at hv2 RR
        subst hv2
        have eM := LM.out.below BX.out LM.out.lt
        have e3 := eM.cell 1
        have z3 := eM.free 1
        simp only [List.getElem?_toArray, List.getElem?_cons_zero, List.getElem?_cons_succ] at e3
        have st := eM.setCell 1 (.slice a2 lF.length c2)
        replace RR := Lib.hid RR
        replace st := Lib.hid st
        replace eM := Lib.hid eM
        refine held_take (i := 7) (d := 83) (v := ?_) rfl (by kernel_rfl) (by kernel_rfl) (by kernel_rfl) rfl (fun _ _ _ h => h) rfl hH (fun w' hS => ?_) ?_
        rotate_left
        · go_simp; first | done | with_reducible rfl
        simp only
        refine held_only (i := 8) rfl (by kernel_rfl) rfl (fun K hK => ?_)
        go_simp
        refine hK.out _ _ ((World.cell?_setCell_other _ _ _ _ (fun h => by have := congrArg Addr.block h; have := hgm.out; simp only at *; omega)).trans hH) (fun hH => ?_)
        clear hK K e3 z3
        refine wpAnyH_done (by kernel_rfl) ?_ _
        go_wp2_with fail
        go_meet
        case rel => exact ⟨a2, c2, Lib.hid st.out.1, Lib.hid ((RR.out.kpT (ok := fun T => T ≠ 27) (by decide) ((Ov.st st.out.2).kpT eM.out.tg) fun c x hq => FeQ.kpT (by decide) (by decide) hq ((Ov.st st.out.2).kpT eM.out.tg)).less (Nat.zero_le _) fun c x hq => hq), Lib.hid ((Ov.of BX.out).trans (Ov.st st.out.2))⟩
      · have e2 := (LM.out.below BX.out LM.out.lt).cell 1
        simp only [List.getElem?_toArray, List.getElem?_cons_zero, List.getElem?_cons_succ] at e2
        go_simp
        refine hK.out _ _ hH (fun hH => ?_)
        clear hK K e2
        refine held_only (i := 0) rfl (by kernel_rfl) rfl (fun K hK => ?_)
        go_simp
        refine hK.out _ _ (keeps (balloc (b0 x0) (.cells #[] 96)) hH) (fun hH => ?_)
        clear hK K
        have R1 := Lib.hid (rw_lit 96 18 x0 wd.heap.size BX.out.size)
        replace BX := Lib.hid (balloc BX.out (.cells #[] 96))
        generalize (x0.alloc (.cells #[] 96)) = x1 at *
        refine held_only (i := 3) rfl (by kernel_rfl) rfl (fun K hK => ?_)
        refine wp_catR infFeatures _ (.tmp 76) (.tmp 78) rfl wd.heap.size (.slice (some ⟨x0.heap.size, 0, none⟩) 0 0) [] rfl R1.out fa m.fs.length fc ds1 rfl (S1.out.keeps BX.out) H1.out.1 H1.out.2.1 H1.out.2.2 (by have := HL.out; simp; omega) BX.out.size ?_
        intro v1 y1 P1 b1 g1
        rw [List.nil_append] at P1
        have q1 := (b1.cell (p := ⟨w6.heap.size, 1, none⟩) LN.out.lt).trans hH
        refine hK.out _ _ q1 (fun hH => ?_)
        clear hK K q1 g1
        replace P1 := Lib.hid P1
        replace BX := Lib.hid (BX.out.trans b1)
        clear b1
        refine held_only (i := 6) rfl (by kernel_rfl) rfl (fun K hK => ?_)
        refine wp_catR infFeatures _ (.tmp 79) (.tmp 81) rfl wd.heap.size v1 ds1 rfl P1.out fb n.fs.length fd ds2 rfl (S2.out.keeps BX.out) H2.out.1 H2.out.2.1 H2.out.2.2 (by have := HL.out; have := H1.out.1; omega) BX.out.size ?_
        intro v2 y2 P2 b2 g2
        have q1 := (b2.cell (p := ⟨w6.heap.size, 1, none⟩) LN.out.lt).trans hH
        refine hK.out _ _ q1 (fun hH => ?_)
        clear hK K q1 g2
        replace BX := Lib.hid (BX.out.trans b2)
        clear b2
        obtain ⟨a2, c2, hv2, RR⟩ := P2.row (l := m.fs ++ n.fs) (Q := FeQ 0) (by rw [List.length_append, List.length_append, H1.out.1, H2.out.1]) (q_app H1.out.1 (fun j h1 h2 => FeQ.kpT trivial trivial (Q1.out j h1 h2) (kp_of BX.out)) (fun j h1 h2 => FeQ.kpT trivial trivial (Q2.out j h1 h2) (kp_of BX.out)))
        rw [← hlF.out] at hv2 RR
        subst hv2
        have eM := LM.out.below BX.out LM.out.lt
        have e3 := eM.cell 1
        have z3 := eM.free 1
        simp only [List.getElem?_toArray, List.getElem?_cons_zero, List.getElem?_cons_succ] at e3
        have st := eM.setCell 1 (.slice a2 lF.length c2)
        replace RR := Lib.hid RR
        replace st := Lib.hid st
        replace eM := Lib.hid eM
        refine held_take (i := 7) (d := 83) (v := ?_) rfl (by kernel_rfl) (by kernel_rfl) (by kernel_rfl) rfl (fun _ _ _ h => h) rfl hH (fun w' hS => ?_) ?_
        rotate_left
        · go_simp; first | done | with_reducible rfl
        simp only
        refine held_only (i := 8) rfl (by kernel_rfl) rfl (fun K hK => ?_)
        go_simp
        refine hK.out _ _ ((World.cell?_setCell_other _ _ _ _ (fun h => by have := congrArg Addr.block h; have := hgm.out; simp only at *; omega)).trans hH) (fun hH => ?_)
        clear hK K e3 z3
        refine wpAnyH_done (by kernel_rfl) ?_ _
        go_wp2_with fail
        go_meet
        case rel => exact ⟨a2, c2, Lib.hid st.out.1, Lib.hid ((RR.out.kpT (ok := fun T => T ≠ 27) (by decide) ((Ov.st st.out.2).kpT eM.out.tg) fun c x hq => FeQ.kpT (by decide) (by decide) hq ((Ov.st st.out.2).kpT eM.out.tg)).less (Nat.zero_le _) fun c x hq => hq), Lib.hid ((Ov.of BX.out).trans (Ov.st st.out.2))⟩
    case rest =>
      obtain ⟨fa9, fc9, LMe, RFe, OVe⟩ := hcut
      generalize wc = we at *
      have OV := OVd.out.trans OVe.out
      have LZe := Lib.hid (OV.blk LZ.out (by have := LZ.out.lt; have := F11.out.size; have := hgm.out; omega))
      have KT := OV.kpT (C := 0) (show Tg u11 w4.heap.size 27 from LMt.out)
      have KS := OVe.out.kpT (C := 0) (show Tg wd w4.heap.size 27 from LMs.out)
      have RT3e := Lib.hid (RT3.out.kpT (ok := fun T => T ≠ 27) (by decide) KT fun c x hq => TbQ.kpT (by decide) (by decide) hq KT)
      have RF3e := Lib.hid (RF3.out.kpT (ok := fun T => T ≠ 27) (by decide) KT fun c x hq => FeQ.kpT (by decide) (by decide) hq KT)
      have RTe := Lib.hid (RTd.out.kpT (ok := fun T => T ≠ 27) (by decide) KS fun c x hq => TbQ.kpT (by decide) (by decide) hq KS)
      have DE := Lib.hid (D11.out.trans (OV.below (S := w0'.heap.size) hgm.out.1 D11.out.size))
      have S2e := Lib.hid (sl_ov SU2.out LMu.out OV)
      have S9e := Lib.hid (sl_ov SU9.out LMu.out OV)
      have hX := ZX.out.1
      have hY := ZX.out.2
      have HB := Lib.hid (show ∀ j, j < k2 → 0 ≤ (pb.gt (p2.take 32) j).1 ∧ (pb.gt (p2.take 32) j).1 ≤ 1000 from fun j hj => by have h1 := S2e.out.hn; have h2 : pb.gt (p2.take 32) j ∈ p2.take 32 := (by unfold pb.gt; rw [List.getD_eq_getElem?_getD, List.getElem?_eq_getElem (by omega)]; exact List.getElem_mem _); have h3 := PI.out _ (HP2.out.1.subset (List.mem_of_mem_take h2)); omega)
      have HE := Lib.hid (show (p2.map (shB (x.size + 1))).take 32 = (p2.take 32).map (shB (x.size + 1)) from by rw [List.map_take])
      clear OV KT KS RT3 RF3 RTd LZ LMu OVd OVe D11 mS nS HLm LN RF1 RF2 S1 S2 Q1 Q2 H1 H2 HL cN LMt LMs hlT hlF hgm F11 LM PI SU2 SU9 HP2
      have hX2 := Lib.hid hX
      have hXs : (0 : Int) ≤ (x.size : Int) ∧ (x.size : Int) ≤ 1000 := by omega
      replace hXs := Lib.hid hXs
      clear hX hY
      go_wp2_with fail
      go_loopw [17, 18] (fun vl vi wr => ∃ j : Nat, vi = .int .i64 (j : Nat) ∧ Hid (j ≤ k2) ∧ Hid (pb.Own wr we.heap.size vl (((p2.take 32).take j).map (shB (x.size + 1)))) ∧ Hid (Below we.heap.size we wr)) (fun _ vi _ => k2 - (intOf vi).toNat)
      case atStart => exact ⟨0, rfl, Lib.hid (Nat.zero_le _), Lib.hid (pb.Own.nil _ _), Lib.hid (b0 we)⟩
      case round =>
        obtain ⟨j, rfl, hj, hO, hb⟩ := hrel
        by_cases hlt : j < k2
        · have q1 : decide ((j : Int) < (k2 : Int)) = true := decide_eq_true (by omega)
          have hln := Lib.hid (show j < (p2.take 32).length by have := S2e.out.hn; omega)
          obtain ⟨bk, off, hab, hC⟩ := S2e.out.hat.resolve_left (by have := hln.out; omega)
          cases hab
          obtain ⟨c0, c1⟩ := hC j hln.out
          replace c0 := Lib.hid c0
          replace c1 := Lib.hid c1
          have hta := Lib.hid (pb.take_gt hln.out)
          have hbd := HB.out j hlt
          have f4 := Lib.hid (next_at (j := j) (by have := K3.out; omega))
          have hlt2 := Lib.hid hlt
          have i1 : (j : Int) < (k2 : Int) := by omega
          have i2 : j < k2 := hlt
          have g3 : IntKind.i64.wrap ((pb.gt (p2.take 32) j).1 + (x.size : Int)) = (pb.gt (p2.take 32) j).1 + (x.size : Int) := wrapS (by omega) (by have := hXs.out; omega)
          have g4 : IntKind.i64.wrap ((pb.gt (p2.take 32) j).1 + (x.size : Int) + 1) = (pb.gt (p2.take 32) j).1 + (x.size : Int) + 1 := wrapS (by omega) (by have := hXs.out; omega)
          clear hC hbd hlt hj
          generalize pb.gt (p2.take 32) j = y0 at *
          go_wp2_with fail
          refine wp_region_held_drew (S := fun w' => Below we.heap.size we w') (by kernel_rfl) hb.out.drew (fun hH => ?_)
          have O0 := Lib.hid (hO.out.keeps (b0 wr).drew)
          clear hO
          generalize wr.drew = x0 at *
          refine held_take (i := 0) (d := 90) (v := ?_) rfl (by kernel_rfl) (by kernel_rfl) (by kernel_rfl) rfl (fun _ _ _ h => h) rfl hH (fun w' hS => ?_) ?_
          rotate_left
          · go_simp; first | done | with_reducible rfl
          simp only [List.set_cons_zero, List.set_cons_succ]
          refine held_take (i := 1) (d := 91) (v := ?_) rfl (by kernel_rfl) (by kernel_rfl) (by kernel_rfl) rfl (fun _ _ _ h => h) rfl hH (fun w' hS => ?_) ?_
          rotate_left
          · go_simp; first | done | with_reducible rfl
          simp only [List.set_cons_zero, List.set_cons_succ]
          refine held_take (i := 2) (d := 92) (v := ?_) rfl (by kernel_rfl) (by kernel_rfl) (by kernel_rfl) rfl (fun _ _ _ h => h) rfl hH (fun w' hS => ?_) ?_
          rotate_left
          · go_simp; first | done | with_reducible rfl
          simp only [List.set_cons_zero, List.set_cons_succ]
          refine held_take (i := 3) (d := 93) (v := ?_) rfl (by kernel_rfl) (by kernel_rfl) (by kernel_rfl) rfl (fun _ _ _ h => h) rfl hH (fun w' hS => ?_) ?_
          rotate_left
          · go_simp; first | done | with_reducible rfl
          simp only [List.set_cons_zero, List.set_cons_succ]
          refine held_take (i := 4) (d := 94) (v := ?_) rfl (by kernel_rfl) (by kernel_rfl) (by kernel_rfl) rfl (fun _ _ _ h => h) rfl hH (fun w' hS => ?_) ?_
          rotate_left
          · go_simp; first | done | with_reducible rfl
          simp only [List.set_cons_zero, List.set_cons_succ]
          refine held_take (i := 5) (d := 95) (v := ?_) rfl (by kernel_rfl) (by kernel_rfl) (by kernel_rfl) rfl (fun _ _ _ h => h) rfl hH (fun w' hS => ?_) ?_
          rotate_left
          · have e1 := keeps hS c0.out; go_simp; first | done | with_reducible rfl
          simp only [List.set_cons_zero, List.set_cons_succ]
          refine held_take (i := 6) (d := 96) (v := ?_) rfl (by kernel_rfl) (by kernel_rfl) (by kernel_rfl) rfl (fun _ _ _ h => h) rfl hH (fun w' hS => ?_) ?_
          rotate_left
          · go_simp; first | done | with_reducible rfl
          simp only [List.set_cons_zero, List.set_cons_succ]
          refine held_take (i := 7) (d := 97) (v := ?_) rfl (by kernel_rfl) (by kernel_rfl) (by kernel_rfl) rfl (fun _ _ _ h => h) rfl hH (fun w' hS => ?_) ?_
          rotate_left
          · go_simp; first | done | with_reducible rfl
          simp only [List.set_cons_zero, List.set_cons_succ]
          refine held_take (i := 8) (d := 98) (v := ?_) rfl (by kernel_rfl) (by kernel_rfl) (by kernel_rfl) rfl (fun _ _ _ h => h) rfl hH (fun w' hS => ?_) ?_
          rotate_left
          · go_simp; (try simp only [g3, g4]); first | done | with_reducible rfl
          simp only [List.set_cons_zero, List.set_cons_succ]
          refine held_take (i := 9) (d := 99) (v := ?_) rfl (by kernel_rfl) (by kernel_rfl) (by kernel_rfl) rfl (fun _ _ _ h => h) rfl hH (fun w' hS => ?_) ?_
          rotate_left
          · go_simp; (try simp only [g3, g4]); first | done | with_reducible rfl
          simp only [List.set_cons_zero, List.set_cons_succ]
          refine held_take (i := 10) (d := 100) (v := ?_) rfl (by kernel_rfl) (by kernel_rfl) (by kernel_rfl) rfl (fun _ _ _ h => h) rfl hH (fun w' hS => ?_) ?_
          rotate_left
          · go_simp; first | done | with_reducible rfl
          simp only [List.set_cons_zero, List.set_cons_succ]
          refine held_take (i := 11) (d := 101) (v := ?_) rfl (by kernel_rfl) (by kernel_rfl) (by kernel_rfl) rfl (fun _ _ _ h => h) rfl hH (fun w' hS => ?_) ?_
          rotate_left
          · go_simp; first | done | with_reducible rfl
          simp only [List.set_cons_zero, List.set_cons_succ]
          refine held_take (i := 12) (d := 102) (v := ?_) rfl (by kernel_rfl) (by kernel_rfl) (by kernel_rfl) rfl (fun _ _ _ h => h) rfl hH (fun w' hS => ?_) ?_
          rotate_left
          · go_simp; first | done | with_reducible rfl
          simp only [List.set_cons_zero, List.set_cons_succ]
          refine held_take (i := 13) (d := 103) (v := ?_) rfl (by kernel_rfl) (by kernel_rfl) (by kernel_rfl) rfl (fun _ _ _ h => h) rfl hH (fun w' hS => ?_) ?_
          rotate_left
          · go_simp; first | done | with_reducible rfl
          simp only [List.set_cons_zero, List.set_cons_succ]
          refine held_take (i := 14) (d := 104) (v := ?_) rfl (by kernel_rfl) (by kernel_rfl) (by kernel_rfl) rfl (fun _ _ _ h => h) rfl hH (fun w' hS => ?_) ?_
          rotate_left
          · have e1 := keeps hS c1.out; go_simp; first | done | with_reducible rfl
          simp only [List.set_cons_zero, List.set_cons_succ]
          refine held_take (i := 15) (d := 105) (v := ?_) rfl (by kernel_rfl) (by kernel_rfl) (by kernel_rfl) rfl (fun _ _ _ h => h) rfl hH (fun w' hS => ?_) ?_
          rotate_left
          · go_simp; first | done | with_reducible rfl
          simp only [List.set_cons_zero, List.set_cons_succ]
          refine held_only (i := 16) rfl (by kernel_rfl) rfl (fun K hK => ?_)
          go_simp
          refine hK.out _ _ (balloc hH (.cells #[.int .i64 (y0.1 + (x.size : Int) + 1), .int .i64 y0.2] 60)) (fun hH => ?_)
          clear hK K
          refine held_only (i := 17) rfl (by kernel_rfl) rfl (fun K hK => ?_)
          refine pb.wp_push _ (.tmp 90) (.tmp 106) rfl we.heap.size _ (((p2.take 32).take j).map (shB (x.size + 1))) rfl (O0.out.keeps (balloc (b0 x0) (.cells #[.int .i64 (y0.1 + (x.size : Int) + 1), .int .i64 y0.2] 60))) x0.heap.size (y0.1 + (x.size : Int) + 1, y0.2) rfl (pb.Bw.new x0 (y0.1 + (x.size : Int) + 1, y0.2) _) (by rw [List.length_map, List.length_take]; have := S2e.out.hn; have := K3.out; omega) hH.size ?_
          intro v8 w8 O8 b8 g8
          refine hK.out _ _ (hH.trans b8) (fun hH => ?_)
          clear hK K b8 g8
          replace O8 := Lib.hid O8
          refine held_take (i := 18) (d := 17) (v := ?_) rfl (by kernel_rfl) (by kernel_rfl) (by kernel_rfl) rfl (fun _ _ _ h => h) rfl hH (fun w' hS => ?_) ?_
          rotate_left
          · go_simp; first | done | with_reducible rfl
          simp only [List.set_cons_zero, List.set_cons_succ]
          refine wpAnyH_done (by kernel_rfl) ?_ _
          go_wp2_with fail
          refine ⟨⟨j + 1, congrArg (Value.int .i64) f4.out, Lib.hid hlt2.out, Lib.hid (show pb.Own _ we.heap.size v8 (((p2.take 32).take (j + 1)).map (shB (x.size + 1))) from by have e8 : List.map (shB (x.size + 1)) [y0] = [((y0.1 + (x.size : Int) + 1, y0.2) : Pb)] := (by show [((y0.1 + ((x.size + 1 : Nat) : Int), y0.2) : Pb)] = _; rw [show y0.1 + ((x.size + 1 : Nat) : Int) = y0.1 + (x.size : Int) + 1 by omega]); rw [hta.out, List.map_append, e8]; exact O8.out), Lib.hid hH⟩, less_at hlt2.out f4.out⟩
        · have hjk : j = k2 := by have := hj.out; omega
          subst hjk
          have q1 : decide ((j : Int) < (j : Int)) = false := decide_eq_false (by omega)
          obtain ⟨a8, c8, rfl, S8⟩ := hO.out.sl
          have hlj : (((p2.take 32).take j).map (shB (x.size + 1))).length = j := by rw [List.length_map, List.length_take, S2e.out.hn]; exact Nat.min_self _
          rw [hlj] at S8 ⊢
          have S9r := S9e.out.keeps hb.out
          rw [HE.out] at S9r
          rw [List.take_of_length_le (by have := S2e.out.hn; omega)] at S8
          have C5 := Lib.hid (fun (W : World) (h : Below wr.heap.size wr W) => sameP_any _ a9 a8 j c9 c8 W (S9r.keeps h) (S8.keeps h) (by have := K3.out; omega))
          have LZr := Lib.hid (LZe.out.below hb.out LZe.out.lt)
          have LMr := Lib.hid (LMe.out.below hb.out LMe.out.lt)
          have DR := Lib.hid (bnext DE.out hb.out)
          have C4 := Lib.hid (sameM_any 0 0 ⟨lT, lF⟩ tz ta9 fz fa9 tzc tc9 fzc fc9 wr (RT3e.out.kpT (ok := fun _ => True) trivial (kp_of hb.out) fun c x hq => TbQ.kpT trivial trivial hq (kp_of hb.out)) (RTe.out.kpT (ok := fun _ => True) trivial (kp_of hb.out) fun c x hq => TbQ.kpT trivial trivial hq (kp_of hb.out)) (RF3e.out.kpT (ok := fun _ => True) trivial (kp_of hb.out) fun c x hq => FeQ.kpT trivial trivial hq (kp_of hb.out)) (RFe.out.kpT (ok := fun _ => True) trivial (kp_of hb.out) fun c x hq => FeQ.kpT trivial trivial hq (kp_of hb.out)) zT.out)
          clear hlt hj hlj S8 S9r hO RT3e RTe RF3e RFe zT HB HE S2e S9e hb hX2 hXs ZX
          go_wp2_with (first | (refine arm_loadG infMo Tryz.underlying27 rfl (.tmp 14) rfl (by first | rfl | decide | kernel_rfl) _ _ _ rfl LZr.out rfl ?_) | (refine arm_loadG infMo Tryz.underlying27 rfl (.tmp 7) rfl (by first | rfl | decide | kernel_rfl) _ _ _ rfl LMr.out rfl ?_))
          refine C4.out.mono ?_
          rintro e wf ⟨rfl, b⟩
          have Df := Lib.hid b
          clear b
          go_wp2_with fail
          refine (C5.out _ Df.out).mono ?_
          rintro e wg ⟨rfl, b⟩
          have Dg := Lib.hid (bnext (bnext DR.out Df.out) b)
          clear b
          go_wp2_with fail
          refine (EX.out _ (T0.out.stays Dg.out)).mono ?_
          rintro e wh ⟨rfl, b⟩
          have Dh := Lib.hid (bnext Dg.out b)
          clear b
          go_wp2_with fail
          go_ret
          exact ⟨rfl, Dh.out⟩
theorem walk_items (a0 : Option Addr) (n0 c0 : Nat) (s0 : ByteArray) (a1 : Option Addr) (n1 c1 : Nat) (s1 : ByteArray) (w : World) (hS0 : Bs w a0 n0 c0 s0) (hS1 : Bs w a1 n1 c1 s1) (T : Tabs w) (EXA : ExA) :
    Calls Tryz.prog 7 #[.slice a0 n0 c0, .slice a1 n1 c1] w fun e w' => e = .returned (.bool true) ∧ Below w.heap.size w w' := by
  obtain ⟨x, hx⟩ : ∃ x, fewS 1000 s0 = x := ⟨_, rfl⟩
  obtain ⟨y, hy⟩ : ∃ x, fewS 1000 s1 = x := ⟨_, rfl⟩
  obtain ⟨⟨m, p⟩, hm⟩ : ∃ z, modR x = some z := by
    cases h : modR x with
    | none => exact absurd h (modL_ne _ _ _ _ (Nat.lt_succ_self _))
    | some z => exact ⟨z, rfl⟩
  obtain ⟨⟨n, q⟩, hn⟩ : ∃ z, modR y = some z := by
    cases h : modR y with
    | none => exact absurd h (modL_ne _ _ _ _ (Nat.lt_succ_self _))
    | some z => exact ⟨z, rfl⟩
  rcases p with _ | ⟨p0, p⟩
  · exact wit_good a0 n0 c0 s0 a1 n1 c1 s1 w hS0 hS1 T EXA x y hx hy m n [] q hm hn rfl
  · exact wit_bad a0 n0 c0 s0 a1 n1 c1 s1 w hS0 hS1 T EXA x y hx hy m n (p0 :: p) q hm hn _ _ rfl (by simp only [List.length_cons]; omega) rfl
end Go.Proofs.YtkgclmikhpjheaaGreatDoor.pa

/-
  The examples.
-/
import Derived.Test.YtbkpjhffmaldmaaGreatDoorQ12
namespace Go.Proofs.YtbkpjhffmaldmaaGreatDoor.ch
open Go.RowKit dec

set_option maxRecDepth 100000 in
set_option maxHeartbeats 1000000 in
theorem binary_b (op : ByteArray) (x y : Ex) (ua aa ub ab : Option Addr) (uc ac ud ad : Nat) (w : World) : Calls Tryz.prog 26 #[.string op, .agg (exC x.h x.ar.len ua uc aa ac), .agg (exC y.h y.ar.len ub ud ab ad)] w fun e w' => ∃ g, e = .returned (.agg (exC (binX op x y).h 2 none 0 (some ⟨g, 0, none⟩) 2)) ∧ Blk w' g 29 ((exC x.h x.ar.len ua uc aa ac) ++ (exC y.h y.ar.len ub ud ab ad)) ∧ w.heap.size ≤ g ∧ Below w.heap.size w w' := by
  unfold exC
  go_enter Tryz.func26, Tryz.ntmps26
  go_wp2_with fail
  have hb := balloc (balloc (balloc (balloc (b0 w) (.cells (exC x.h x.ar.len ua uc aa ac) 29)) (.cells (exC y.h y.ar.len ub ud ab ad) 29)) (.cells (exC (binX op x y).h 2 none 0 (some ⟨w.heap.size + 1 + 1 + 1, 0, none⟩) 2) 29)) (.cells ((exC x.h x.ar.len ua uc aa ac) ++ (exC y.h y.ar.len ub ud ab ad)) 29)
  exact ret_X Tryz.results26 _ _ (w.heap.size + 1 + 1) _ (exC (binX op x y).h 2 none 0 (some ⟨w.heap.size + 1 + 1 + 1, 0, none⟩) 2) rfl ((bw_new _ _ _ _ (by rw [sz_al, sz_al])).past _) rfl ⟨w.heap.size + 1 + 1 + 1, rfl, bw_new _ _ _ _ (by rw [sz_al, sz_al, sz_al]), by omega, hb⟩
theorem at_world {K : Act → World → Prop} {a : Act} {w : World} (W : World) (h : W = w) (k : K a W) : K a w := h ▸ k
theorem wp_world {P : Program} {c : Code} {Q : Exit → Act → World → Prop} {a : Act} {w : World} (W : World) (h : W = w) (k : c.wp P Q a W) : c.wp P Q a w := h ▸ k
set_option maxRecDepth 100000 in
set_option maxHeartbeats 8000000 in
theorem example_any (w : World) (T : Tabs w) : Calls Tryz.prog 11 #[] w (Bl true w) := by
  have CO := Lib.hid (fun (w : World) => over_e ⟨#[115, 117, 109]⟩ ⟨#[111, 114, 100, 101, 114, 115]⟩ ⟨#[97, 109, 111, 117, 110, 116]⟩ w)
  have CE := Lib.hid (fun (k : Int) (w : World) => eur_e k w)
  have CN := Lib.hid (fun (w : World) => number_e 2 2 w)
  have CB := Lib.hid (fun (op : ByteArray) (x y : Ex) (cs ds : Array Value) (w : World) (hx : ExV w cs x) (hy : ExV w ds y) => binary_x op x y cs ds w hx hy)
  have HT := Lib.hid T
  clear T
  go_enter Tryz.func11, Tryz.ntmps11
  go_wp2_with fail
  refine (feature_x ⟨#[116, 111, 116, 97, 108]⟩ w).mono ?_
  rintro e w1 ⟨cs, rfl, X1, b1⟩
  obtain ⟨ua, uc, aa, ac, rfl, E1⟩ := X1
  go_upto_region 2 with (first | (refine arm_storeT infX (.tmp 1) (.tmp 7) rfl rfl _ _ _ _ rfl rfl (Blk.new _ _ _) rfl rfl (by simp [exC, Value.oneCell']) ?_; intro w2 L2 hs2))
  have B2 := Lib.hid ((bnext b1 (balloc (b0 w1) _)).trans (hs2.below b1.size))
  have G2 := Lib.hid L2
  replace HT := Lib.hid (HT.out.stays B2.out)
  have EF := Lib.hid (show ∀ W : World, ExV W (exC (feaX ⟨#[116, 111, 116, 97, 108]⟩).h (feaX ⟨#[116, 111, 116, 97, 108]⟩).ar.len ua uc aa ac) (feaX ⟨#[116, 111, 116, 97, 108]⟩) from fun W => ⟨ua, uc, aa, ac, rfl, ec_flat rfl E1⟩)
  have EE := Lib.hid (show ∀ W : World, Ec W (feaX ⟨#[116, 111, 116, 97, 108]⟩) ua uc aa ac from fun W => ec_flat rfl E1)
  have hz := Lib.hid (show (exC (feaX ⟨#[116, 111, 116, 97, 108]⟩).h (feaX ⟨#[116, 111, 116, 97, 108]⟩).ar.len ua uc aa ac).size = 12 from rfl)
  clear b1 E1 L2 hs2
  generalize w1.heap.size = g at *
  generalize hcs : exC (feaX ⟨#[116, 111, 116, 97, 108]⟩).h (feaX ⟨#[116, 111, 116, 97, 108]⟩).ar.len ua uc aa ac = cs at *
  have HCS := Lib.hid hcs
  clear hcs
  go_simp
  go_cut [2] from 8 (fun v2 wx => v2 = .bool true ∧ Hid (Below w2.heap.size w2 wx))
  case first =>
    refine wp_region_held_drew (S := fun w' => Below w2.heap.size w2 w') (by kernel_rfl) (b0 w2).drew (fun hH => ?_)
    refine held_only (i := 0) rfl (by kernel_rfl) rfl (fun K hK => ?_)
    go_simp
    refine (CO.out _).mono ?_
    rintro e y1 ⟨cA, rfl, xA, b1⟩
    refine hK.out _ _ (bnext hH b1) (fun hH => ?_)
    clear hK K
    have XA := Lib.hid xA
    clear b1 xA
    refine held_only (i := 1) rfl (by kernel_rfl) rfl (fun K hK => ?_)
    go_simp
    refine (CE.out 1 _).mono ?_
    rintro e y2 ⟨aA, rfl, uA, b2⟩
    refine hK.out _ _ (bnext hH b2) (fun hH => ?_)
    clear hK K
    replace XA := Lib.hid (XA.out.keeps b2)
    have UA := Lib.hid uA
    clear b2 uA
    refine held_only (i := 2) rfl (by kernel_rfl) rfl (fun K hK => ?_)
    go_simp
    refine (h_sum cA aA _ XA.out UA.out (HT.out.stays hH)).mono ?_
    rintro e y3 ⟨rfl, b3⟩
    refine hK.out _ _ (bnext hH b3) (fun hH => ?_)
    clear hK K
    clear b3
    refine held_take (i := 3) (d := 11) (v := ?_) rfl (by kernel_rfl) (by kernel_rfl) (by kernel_rfl) rfl (fun _ _ _ h => h) rfl hH (fun w' hS => ?_) ?_
    rotate_left
    · go_simp; first | done | with_reducible rfl
    simp only [List.set_cons_zero, List.set_cons_succ]
    refine held_take (i := 4) (d := 12) (v := .agg cs) rfl (by kernel_rfl) (by kernel_rfl) (by kernel_rfl) rfl (fun _ _ _ h => h) rfl hH (fun w' hS => yield_load infX Tryz.underlying29 rfl (.tmp 1) rfl _ _ _ rfl (G2.out.keeps hS) hz.out) ?_
    simp only [List.set_cons_zero, List.set_cons_succ]
    refine held_only (i := 5) rfl (by kernel_rfl) rfl (fun K hK => ?_)
    go_simp
    refine (CN.out _).mono ?_
    rintro e y4 ⟨cN, rfl, xN, b4⟩
    refine hK.out _ _ (bnext hH b4) (fun hH => ?_)
    clear hK K
    have XN := Lib.hid xN
    clear b4 xN
    refine held_only (i := 6) rfl (by kernel_rfl) rfl (fun K hK => ?_)
    go_simp
    refine (CB.out ⟨#[47]⟩ (feaX ⟨#[116, 111, 116, 97, 108]⟩) (numX 2 2 []) cs cN _ (EF.out _) XN.out).mono ?_
    rintro e y5 ⟨cD, rfl, xD, b5⟩
    refine hK.out _ _ (bnext hH b5) (fun hH => ?_)
    clear hK K
    have XD := Lib.hid xD
    clear b5 xD
    refine held_only (i := 7) rfl (by kernel_rfl) rfl (fun K hK => ?_)
    go_simp
    refine (CE.out 1 _).mono ?_
    rintro e y6 ⟨aB, rfl, uB, b6⟩
    refine hK.out _ _ (bnext hH b6) (fun hH => ?_)
    clear hK K
    replace XD := Lib.hid (XD.out.keeps b6)
    have UB := Lib.hid uB
    clear b6 uB
    refine held_only (i := 8) rfl (by kernel_rfl) rfl (fun K hK => ?_)
    go_simp
    refine (h_div cD aB _ XD.out UB.out (HT.out.stays hH)).mono ?_
    rintro e y7 ⟨rfl, b7⟩
    refine hK.out _ _ (bnext hH b7) (fun hH => ?_)
    clear hK K
    clear b7
    refine held_take (i := 9) (d := 17) (v := ?_) rfl (by kernel_rfl) (by kernel_rfl) (by kernel_rfl) rfl (fun _ _ _ h => h) rfl hH (fun w' hS => ?_) ?_
    rotate_left
    · go_simp; first | done | with_reducible rfl
    simp only [List.set_cons_zero, List.set_cons_succ]
    refine held_take (i := 10) (d := 18) (v := ?_) rfl (by kernel_rfl) (by kernel_rfl) (by kernel_rfl) rfl (fun _ _ _ h => h) rfl hH (fun w' hS => ?_) ?_
    rotate_left
    · go_simp; first | done | with_reducible rfl
    simp only [List.set_cons_zero, List.set_cons_succ]
    refine held_take (i := 11) (d := 19) (v := .agg cs) rfl (by kernel_rfl) (by kernel_rfl) (by kernel_rfl) rfl (fun _ _ _ h => h) rfl hH (fun w' hS => yield_load infX Tryz.underlying29 rfl (.tmp 1) rfl _ _ _ rfl (G2.out.keeps hS) hz.out) ?_
    simp only [List.set_cons_zero, List.set_cons_succ]
    refine held_take (i := 12) (d := 20) (v := .agg cs) rfl (by kernel_rfl) (by kernel_rfl) (by kernel_rfl) rfl (fun _ _ _ h => h) rfl hH (fun w' hS => yield_load infX Tryz.underlying29 rfl (.tmp 1) rfl _ _ _ rfl (G2.out.keeps hS) hz.out) ?_
    simp only [List.set_cons_zero, List.set_cons_succ]
    refine held_only (i := 13) rfl (by kernel_rfl) rfl (fun K hK => ?_)
    go_simp
    refine (CB.out ⟨#[42]⟩ (feaX ⟨#[116, 111, 116, 97, 108]⟩) (feaX ⟨#[116, 111, 116, 97, 108]⟩) cs cs _ (EF.out _) (EF.out _)).mono ?_
    rintro e y8 ⟨cM, rfl, xM, b8⟩
    refine hK.out _ _ (bnext hH b8) (fun hH => ?_)
    clear hK K
    have XM := Lib.hid xM
    clear b8 xM
    refine held_only (i := 14) rfl (by kernel_rfl) rfl (fun K hK => ?_)
    go_simp
    refine (CE.out 2 _).mono ?_
    rintro e y9 ⟨aC, rfl, uC, b9⟩
    refine hK.out _ _ (bnext hH b9) (fun hH => ?_)
    clear hK K
    replace XM := Lib.hid (XM.out.keeps b9)
    have UC := Lib.hid uC
    clear b9 uC
    refine held_only (i := 15) rfl (by kernel_rfl) rfl (fun K hK => ?_)
    go_simp
    refine (h_mul cM aC _ XM.out UC.out (HT.out.stays hH)).mono ?_
    rintro e y10 ⟨rfl, b10⟩
    refine hK.out _ _ (bnext hH b10) (fun hH => ?_)
    clear hK K
    clear b10
    refine held_take (i := 16) (d := 24) (v := ?_) rfl (by kernel_rfl) (by kernel_rfl) (by kernel_rfl) rfl (fun _ _ _ h => h) rfl hH (fun w' hS => ?_) ?_
    rotate_left
    · go_simp; first | done | with_reducible rfl
    simp only [List.set_cons_zero, List.set_cons_succ]
    refine held_take (i := 17) (d := 2) (v := ?_) rfl (by kernel_rfl) (by kernel_rfl) (by kernel_rfl) rfl (fun _ _ _ h => h) rfl hH (fun w' hS => ?_) ?_
    rotate_left
    · go_simp; first | done | with_reducible rfl
    simp only [List.set_cons_zero, List.set_cons_succ]
    refine wpAnyH_done (by kernel_rfl) ?_ _
    go_wp2_with fail
    go_meet
    case rel => exact ⟨rfl, Lib.hid hH⟩
  case rest =>
    obtain ⟨rfl, BW⟩ := hcut
    replace B2 := Lib.hid (bnext B2.out BW.out)
    replace HT := Lib.hid (HT.out.stays BW.out)
    replace G2 := Lib.hid (G2.out.keeps BW.out)
    clear CO CN BW
    generalize wc = w3 at *
    have C1 := Lib.hid (fun (w : World) => number_e 2 1 w)
    have C2 := Lib.hid (fun (w : World) => feature_x ⟨#[114, 97, 110, 107]⟩ w)
    have C3 := Lib.hid (fun (w : World) => over_e ⟨#[109, 101, 97, 110]⟩ ⟨#[111, 114, 100, 101, 114, 115]⟩ ⟨#[115, 104, 111, 112]⟩ w)
    have C4 := Lib.hid (fun (w : World) => over_e ⟨#[115, 117, 109]⟩ ⟨#[112, 97, 121, 109, 101, 110, 116, 115]⟩ ⟨#[97, 109, 111, 117, 110, 116]⟩ w)
    go_upto_region 3 with fail
    go_cut [3] from 25 (fun v3 wx => v3 = .bool true ∧ Hid (Below w3.heap.size w3 wx))
    case first =>
      refine wp_region_held_drew (S := fun w' => Below w3.heap.size w3 w') (by kernel_rfl) (b0 w3).drew (fun hH => ?_)
      refine held_take (i := 0) (d := 25) (v := .agg cs) rfl (by kernel_rfl) (by kernel_rfl) (by kernel_rfl) rfl (fun _ _ _ h => h) rfl hH (fun w' hS => yield_load infX Tryz.underlying29 rfl (.tmp 1) rfl _ _ _ rfl (G2.out.keeps hS) hz.out) ?_
      simp only [List.set_cons_zero, List.set_cons_succ]
      generalize w3.drew = y0 at *
      refine held_only (i := 1) rfl (by kernel_rfl) rfl (fun K hK => ?_)
      go_simp
      refine (C1.out _).mono ?_
      rintro e y11 ⟨cN, rfl, xN, b11⟩
      refine hK.out _ _ (bnext hH b11) (fun hH => ?_)
      clear hK K
      have XN := Lib.hid xN
      clear b11 xN
      refine held_only (i := 2) rfl (by kernel_rfl) rfl (fun K hK => ?_)
      go_simp
      refine (CB.out ⟨#[43]⟩ (feaX ⟨#[116, 111, 116, 97, 108]⟩) (numX 2 1 []) cs cN _ (EF.out _) XN.out).mono ?_
      rintro e y12 ⟨cD, rfl, xD, b12⟩
      refine hK.out _ _ (bnext hH b12) (fun hH => ?_)
      clear hK K
      have XD := Lib.hid xD
      clear b12 xD
      refine held_only (i := 3) rfl (by kernel_rfl) rfl (fun K hK => ?_)
      go_simp
      refine (h_nil _ 0 70 q4 s4 cD _ XD.out (HT.out.stays hH)).mono ?_
      rintro e y13 ⟨rfl, b13⟩
      refine hK.out _ _ (bnext hH b13) (fun hH => ?_)
      clear hK K
      clear b13
      refine held_take (i := 4) (d := 29) (v := ?_) rfl (by kernel_rfl) (by kernel_rfl) (by kernel_rfl) rfl (fun _ _ _ h => h) rfl hH (fun w' hS => ?_) ?_
      rotate_left
      · go_simp; first | done | with_reducible rfl
      simp only [List.set_cons_zero, List.set_cons_succ]
      refine held_only (i := 5) rfl (by kernel_rfl) rfl (fun K hK => ?_)
      go_simp
      refine (C2.out _).mono ?_
      rintro e y14 ⟨cR, rfl, xR, b14⟩
      refine hK.out _ _ (bnext hH b14) (fun hH => ?_)
      clear hK K
      have XR := Lib.hid xR
      clear b14 xR
      refine held_only (i := 6) rfl (by kernel_rfl) rfl (fun K hK => ?_)
      go_simp
      refine (h_nil _ 0 5 q5 s5 cR _ XR.out (HT.out.stays hH)).mono ?_
      rintro e y15 ⟨rfl, b15⟩
      refine hK.out _ _ (bnext hH b15) (fun hH => ?_)
      clear hK K
      clear b15
      refine held_take (i := 7) (d := 32) (v := ?_) rfl (by kernel_rfl) (by kernel_rfl) (by kernel_rfl) rfl (fun _ _ _ h => h) rfl hH (fun w' hS => ?_) ?_
      rotate_left
      · go_simp; first | done | with_reducible rfl
      simp only [List.set_cons_zero, List.set_cons_succ]
      refine held_take (i := 8) (d := 33) (v := ?_) rfl (by kernel_rfl) (by kernel_rfl) (by kernel_rfl) rfl (fun _ _ _ h => h) rfl hH (fun w' hS => ?_) ?_
      rotate_left
      · go_simp; first | done | with_reducible rfl
      simp only [List.set_cons_zero, List.set_cons_succ]
      refine held_only (i := 9) rfl (by kernel_rfl) rfl (fun K hK => ?_)
      go_simp
      refine (C3.out _).mono ?_
      rintro e y16 ⟨cM, rfl, xM, b16⟩
      refine hK.out _ _ (bnext hH b16) (fun hH => ?_)
      clear hK K
      have XM := Lib.hid xM
      clear b16 xM
      refine held_only (i := 10) rfl (by kernel_rfl) rfl (fun K hK => ?_)
      go_simp
      refine (h_nil _ 0 5 q6 s6 cM _ XM.out (HT.out.stays hH)).mono ?_
      rintro e y17 ⟨rfl, b17⟩
      refine hK.out _ _ (bnext hH b17) (fun hH => ?_)
      clear hK K
      clear b17
      refine held_take (i := 11) (d := 36) (v := ?_) rfl (by kernel_rfl) (by kernel_rfl) (by kernel_rfl) rfl (fun _ _ _ h => h) rfl hH (fun w' hS => ?_) ?_
      rotate_left
      · go_simp; first | done | with_reducible rfl
      simp only [List.set_cons_zero, List.set_cons_succ]
      refine held_take (i := 12) (d := 37) (v := ?_) rfl (by kernel_rfl) (by kernel_rfl) (by kernel_rfl) rfl (fun _ _ _ h => h) rfl hH (fun w' hS => ?_) ?_
      rotate_left
      · go_simp; first | done | with_reducible rfl
      simp only [List.set_cons_zero, List.set_cons_succ]
      refine held_only (i := 13) rfl (by kernel_rfl) rfl (fun K hK => ?_)
      go_simp
      refine (C4.out _).mono ?_
      rintro e y18 ⟨cP, rfl, xP, b18⟩
      refine hK.out _ _ (bnext hH b18) (fun hH => ?_)
      clear hK K
      have XP := Lib.hid xP
      clear b18 xP
      refine held_only (i := 14) rfl (by kernel_rfl) rfl (fun K hK => ?_)
      go_simp
      refine (h_nil _ 0 4 q7 s7 cP _ XP.out (HT.out.stays hH)).mono ?_
      rintro e y19 ⟨rfl, b19⟩
      refine hK.out _ _ (bnext hH b19) (fun hH => ?_)
      clear hK K
      clear b19
      refine held_take (i := 15) (d := 40) (v := ?_) rfl (by kernel_rfl) (by kernel_rfl) (by kernel_rfl) rfl (fun _ _ _ h => h) rfl hH (fun w' hS => ?_) ?_
      rotate_left
      · go_simp; first | done | with_reducible rfl
      simp only [List.set_cons_zero, List.set_cons_succ]
      refine held_take (i := 16) (d := 3) (v := ?_) rfl (by kernel_rfl) (by kernel_rfl) (by kernel_rfl) rfl (fun _ _ _ h => h) rfl hH (fun w' hS => ?_) ?_
      rotate_left
      · go_simp; first | done | with_reducible rfl
      simp only [List.set_cons_zero, List.set_cons_succ]
      refine wpAnyH_done (by kernel_rfl) ?_ _
      go_wp2_with fail
      go_meet
      case rel => exact ⟨rfl, Lib.hid hH⟩
    case rest =>
      obtain ⟨rfl, BW⟩ := hcut
      replace B2 := Lib.hid (bnext B2.out BW.out)
      replace HT := Lib.hid (HT.out.stays BW.out)
      replace G2 := Lib.hid (G2.out.keeps BW.out)
      clear C1 C2 C3 C4 BW
      generalize wc = w4 at *
      have C5 := Lib.hid (fun (w : World) => over_e ⟨#[108, 97, 115, 116]⟩ ⟨#[111, 114, 100, 101, 114, 115]⟩ ⟨#[115, 104, 111, 112]⟩ w)
      have q := HCS.out
      subst q
      clear HCS hz
      unfold exC at *
      go_wp2_with fail
      refine (C5.out _).mono ?_
      rintro e w5 ⟨cL, rfl, xL, b5⟩
      obtain ⟨va, vc, vb, vd, rfl, EL⟩ := xL
      replace B2 := Lib.hid (bnext B2.out b5)
      replace HT := Lib.hid (HT.out.stays b5)
      replace G2 := Lib.hid (G2.out.keeps b5)
      have HL := Lib.hid EL
      clear C5 b5 EL
      unfold exC
      go_upto_region 5 with (first | (refine arm_storeT infX (.tmp 4) (.tmp 43) rfl rfl _ _ _ _ rfl rfl (Blk.new _ _ _) rfl rfl (by simp [Value.oneCell']) ?_; intro w6 L6 hs6))
      have bb6 := balloc (balloc (b0 w5) (.cells (exC (ovrX ⟨#[108, 97, 115, 116]⟩ ⟨#[111, 114, 100, 101, 114, 115]⟩ ⟨#[115, 104, 111, 112]⟩).h (ovrX ⟨#[108, 97, 115, 116]⟩ ⟨#[111, 114, 100, 101, 114, 115]⟩ ⟨#[115, 104, 111, 112]⟩).ar.len va vc vb vd) 29)) (.cells (exC lokX.h 1 none 0 (some ⟨w5.heap.size, 0, none⟩) 1) 29)
      have HK := Lib.hid (show ExV _ (exC lokX.h 1 none 0 (some ⟨w5.heap.size, 0, none⟩) 1) lokX from ⟨none, 0, some ⟨w5.heap.size, 0, none⟩, 1, rfl, .nil _, fs_one (HL.out.keeps bb6) ((Blk.new w5 _ _).past _) rfl⟩)
      have GK := Lib.hid (bw_new (w5.alloc (.cells (exC (ovrX ⟨#[108, 97, 115, 116]⟩ ⟨#[111, 114, 100, 101, 114, 115]⟩ ⟨#[115, 104, 111, 112]⟩).h (ovrX ⟨#[108, 97, 115, 116]⟩ ⟨#[111, 114, 100, 101, 114, 115]⟩ ⟨#[115, 104, 111, 112]⟩).ar.len va vc vb vd) 29)) 29 (exC lokX.h 1 none 0 (some ⟨w5.heap.size, 0, none⟩) 1) (w5.heap.size + 1) (sz_al _ _).symm)
      have B6 := Lib.hid (bnext B2.out bb6)
      replace HT := Lib.hid (HT.out.stays bb6)
      replace G2 := Lib.hid (G2.out.keeps bb6)
      clear bb6 B2 HL
      obtain ⟨W6, hW6⟩ : ∃ W6, W6 = (w5.alloc (.cells (exC (ovrX ⟨#[108, 97, 115, 116]⟩ ⟨#[111, 114, 100, 101, 114, 115]⟩ ⟨#[115, 104, 111, 112]⟩).h (ovrX ⟨#[108, 97, 115, 116]⟩ ⟨#[111, 114, 100, 101, 114, 115]⟩ ⟨#[115, 104, 111, 112]⟩).ar.len va vc vb vd) 29)).alloc (.cells (exC lokX.h 1 none 0 (some ⟨w5.heap.size, 0, none⟩) 1) 29) := ⟨_, rfl⟩
      rw [← hW6] at B6 HT G2 HK GK
      refine wp_world W6 hW6 ?_
      have zk := Lib.hid (exC_size lokX.h 1 none 0 (some ⟨w5.heap.size, 0, none⟩) 1)
      generalize exC lokX.h 1 none 0 (some ⟨w5.heap.size, 0, none⟩) 1 = ck at HK GK zk
      clear hW6
      generalize w5.heap.size + 1 = gk at GK ⊢
      go_upto_region 6 with (first | (refine arm_loadT infX Tryz.underlying29 rfl (.tmp 1) rfl rfl _ _ _ rfl G2.out rfl ?_))
      have bb7 := below_two W6 (.cells (exC (feaX ⟨#[116, 111, 116, 97, 108]⟩).h (feaX ⟨#[116, 111, 116, 97, 108]⟩).ar.len ua uc aa ac) 29) (.cells (exC nulX.h 1 none 0 (some ⟨W6.heap.size, 0, none⟩) 1) 29)
      have HN := Lib.hid (show Ec ((W6.alloc (.cells (exC (feaX ⟨#[116, 111, 116, 97, 108]⟩).h (feaX ⟨#[116, 111, 116, 97, 108]⟩).ar.len ua uc aa ac) 29)).alloc (.cells (exC nulX.h 1 none 0 (some ⟨W6.heap.size, 0, none⟩) 1) 29)) nulX none 0 (some ⟨W6.heap.size, 0, none⟩) 1 from ⟨.nil _, fs_one (EE.out _) ((Blk.new W6 _ _).past _) rfl⟩)
      have GN := Lib.hid (bw_new (W6.alloc (.cells (exC (feaX ⟨#[116, 111, 116, 97, 108]⟩).h (feaX ⟨#[116, 111, 116, 97, 108]⟩).ar.len ua uc aa ac) 29)) 29 (exC nulX.h 1 none 0 (some ⟨W6.heap.size, 0, none⟩) 1) (W6.heap.size + 1) (sz_al _ _).symm)
      have B7 := Lib.hid (bnext B6.out bb7)
      replace HT := Lib.hid (HT.out.stays bb7)
      replace G2 := Lib.hid (G2.out.keeps bb7)
      replace HK := Lib.hid (HK.out.keeps bb7)
      replace GK := Lib.hid (GK.out.keeps bb7)
      clear bb7 B6
      obtain ⟨W7, hW7⟩ : ∃ W7, W7 = (W6.alloc (.cells (exC (feaX ⟨#[116, 111, 116, 97, 108]⟩).h (feaX ⟨#[116, 111, 116, 97, 108]⟩).ar.len ua uc aa ac) 29)).alloc (.cells (exC nulX.h 1 none 0 (some ⟨W6.heap.size, 0, none⟩) 1) 29) := ⟨_, rfl⟩
      rw [← hW7] at B7 HT G2 HK GK HN GN
      refine wp_world W7 hW7 ?_
      clear hW7
      generalize W6.heap.size + 1 = gn at GN ⊢
      have C1 := Lib.hid (fun (w : World) => eur_x 1 w)
      have C2 := Lib.hid (fun (g : Nat) (w : World) => number_x 3 1000000 (eurU 1) (some ⟨g, 0, none⟩) 1 w)
      have C3 := Lib.hid (fun (g : Nat) (w : World) => binary_b ⟨#[60]⟩ (feaX ⟨#[116, 111, 116, 97, 108]⟩) (numX 3 1000000 (eurU 1)) ua aa (some ⟨g, 0, none⟩) none uc ac 1 0 w)
      have C4 := Lib.hid (fun (w : World) => number_x 2 1 [] none 0 w)
      go_cut [6] from 47 (fun v6 wx => ∃ g6 c6, v6 = .pointer (some ⟨g6, 0, none⟩) ∧ Hid (c6.size = 12 ∧ Blk wx g6 29 c6) ∧ Hid (ExV wx c6 choX) ∧ Hid (Below W7.heap.size W7 wx))
      case first =>
        refine wp_region_held_drew (S := fun w' => Below W7.heap.size W7 w') (by kernel_rfl) (b0 W7).drew (fun hH => ?_)
        refine held_take (i := 0) (d := 47) (v := .agg (exC (feaX ⟨#[116, 111, 116, 97, 108]⟩).h (feaX ⟨#[116, 111, 116, 97, 108]⟩).ar.len ua uc aa ac)) rfl (by kernel_rfl) (by kernel_rfl) (by kernel_rfl) rfl (fun _ _ _ h => h) rfl hH (fun w' hS => yield_load infX Tryz.underlying29 rfl (.tmp 1) rfl _ _ _ rfl (G2.out.keeps hS) rfl) ?_
        simp only [List.set_cons_zero, List.set_cons_succ]
        refine held_take (i := 5) (d := 52) (v := .agg (exC nulX.h 1 none 0 (some ⟨W6.heap.size, 0, none⟩) 1)) rfl (by kernel_rfl) (by kernel_rfl) (by kernel_rfl) rfl (fun _ _ _ h => h) rfl hH (fun w' hS => yield_load infX Tryz.underlying29 rfl (.tmp 5) rfl _ _ _ rfl (GN.out.keeps hS) rfl) ?_
        simp only [List.set_cons_zero, List.set_cons_succ]
        generalize W7.drew = y0 at *
        refine held_two (i := 1) (j := 8) rfl rfl (by kernel_rfl) rfl rfl (fun K hK => ?_) (fun K hK => ?_)
        · go_simp
          refine (C1.out _).mono ?_
          rintro e y1 ⟨gE, rfl, xE, hE1, b1⟩
          refine hK.out _ _ (bnext hH b1) (fun hH => ?_)
          clear hK K
          have XE := Lib.hid xE
          clear b1 xE hE1
          refine held_two (i := 2) (j := 8) rfl rfl (by kernel_rfl) rfl rfl (fun K hK => ?_) (fun K hK => ?_)
          · go_simp
            refine (C2.out gE _).mono ?_
            rintro e y2 ⟨rfl, b2⟩
            refine hK.out _ _ (bnext hH b2) (fun hH => ?_)
            clear hK K
            replace XE := Lib.hid (XE.out.keeps b2)
            clear b2
            refine held_two (i := 3) (j := 8) rfl rfl (by kernel_rfl) rfl rfl (fun K hK => ?_) (fun K hK => ?_)
            · go_simp
              refine (C3.out gE _).mono ?_
              rintro e y3 ⟨gB, rfl, xB, hB1, b3⟩
              refine hK.out _ _ (bnext hH b3) (fun hH => ?_)
              clear hK K
              replace XE := Lib.hid (XE.out.keeps b3)
              have XB := Lib.hid xB
              clear b3 xB hB1
              refine held_two (i := 4) (j := 8) rfl rfl (by kernel_rfl) rfl rfl (fun K hK => ?_) (fun K hK => ?_)
              · go_simp
                refine (C4.out _).mono ?_
                rintro e y4 ⟨rfl, b4⟩
                refine hK.out _ _ (bnext hH b4) (fun hH => ?_)
                clear hK K
                replace XE := Lib.hid (XE.out.keeps b4)
                replace XB := Lib.hid (XB.out.keeps b4)
                clear b4
                refine held_two (i := 6) (j := 8) rfl rfl (by kernel_rfl) rfl rfl (fun K hK => ?_) (fun K hK => ?_)
                · unfold exC
                  go_simp
                  have bz5 := balloc (b0 y4) (.cells #[.int .i64 (binX ⟨#[60]⟩ (feaX ⟨#[116, 111, 116, 97, 108]⟩) (numX 3 1000000 (eurU 1))).h.k, .string (binX ⟨#[60]⟩ (feaX ⟨#[116, 111, 116, 97, 108]⟩) (numX 3 1000000 (eurU 1))).h.op, .string (binX ⟨#[60]⟩ (feaX ⟨#[116, 111, 116, 97, 108]⟩) (numX 3 1000000 (eurU 1))).h.nm, .string (binX ⟨#[60]⟩ (feaX ⟨#[116, 111, 116, 97, 108]⟩) (numX 3 1000000 (eurU 1))).h.tb, .int .i64 (binX ⟨#[60]⟩ (feaX ⟨#[116, 111, 116, 97, 108]⟩) (numX 3 1000000 (eurU 1))).h.vk, .int .i64 (binX ⟨#[60]⟩ (feaX ⟨#[116, 111, 116, 97, 108]⟩) (numX 3 1000000 (eurU 1))).h.vn, .string (binX ⟨#[60]⟩ (feaX ⟨#[116, 111, 116, 97, 108]⟩) (numX 3 1000000 (eurU 1))).h.vs, .slice none (binX ⟨#[60]⟩ (feaX ⟨#[116, 111, 116, 97, 108]⟩) (numX 3 1000000 (eurU 1))).h.un.length 0, .int .i64 (binX ⟨#[60]⟩ (feaX ⟨#[116, 111, 116, 97, 108]⟩) (numX 3 1000000 (eurU 1))).h.pa, .int .i64 (binX ⟨#[60]⟩ (feaX ⟨#[116, 111, 116, 97, 108]⟩) (numX 3 1000000 (eurU 1))).h.wk, .int .i64 (binX ⟨#[60]⟩ (feaX ⟨#[116, 111, 116, 97, 108]⟩) (numX 3 1000000 (eurU 1))).h.ws, .slice (some ⟨gB, 0, none⟩) 2 2, .int .i64 (numX 2 1 []).h.k, .string (numX 2 1 []).h.op, .string (numX 2 1 []).h.nm, .string (numX 2 1 []).h.tb, .int .i64 (numX 2 1 []).h.vk, .int .i64 (numX 2 1 []).h.vn, .string (numX 2 1 []).h.vs, .slice none (numX 2 1 []).h.un.length 0, .int .i64 (numX 2 1 []).h.pa, .int .i64 (numX 2 1 []).h.wk, .int .i64 (numX 2 1 []).h.ws, .slice none 0 0, .int .i64 nulX.h.k, .string nulX.h.op, .string nulX.h.nm, .string nulX.h.tb, .int .i64 nulX.h.vk, .int .i64 nulX.h.vn, .string nulX.h.vs, .slice none nulX.h.un.length 0, .int .i64 nulX.h.pa, .int .i64 nulX.h.wk, .int .i64 nulX.h.ws, .slice (some ⟨W6.heap.size, 0, none⟩) 1 1] 29)
                  replace XE := Lib.hid (XE.out.keeps bz5)
                  replace XB := Lib.hid (XB.out.keeps bz5)
                  have XS := Lib.hid (Blk.new y4 29 #[.int .i64 (binX ⟨#[60]⟩ (feaX ⟨#[116, 111, 116, 97, 108]⟩) (numX 3 1000000 (eurU 1))).h.k, .string (binX ⟨#[60]⟩ (feaX ⟨#[116, 111, 116, 97, 108]⟩) (numX 3 1000000 (eurU 1))).h.op, .string (binX ⟨#[60]⟩ (feaX ⟨#[116, 111, 116, 97, 108]⟩) (numX 3 1000000 (eurU 1))).h.nm, .string (binX ⟨#[60]⟩ (feaX ⟨#[116, 111, 116, 97, 108]⟩) (numX 3 1000000 (eurU 1))).h.tb, .int .i64 (binX ⟨#[60]⟩ (feaX ⟨#[116, 111, 116, 97, 108]⟩) (numX 3 1000000 (eurU 1))).h.vk, .int .i64 (binX ⟨#[60]⟩ (feaX ⟨#[116, 111, 116, 97, 108]⟩) (numX 3 1000000 (eurU 1))).h.vn, .string (binX ⟨#[60]⟩ (feaX ⟨#[116, 111, 116, 97, 108]⟩) (numX 3 1000000 (eurU 1))).h.vs, .slice none (binX ⟨#[60]⟩ (feaX ⟨#[116, 111, 116, 97, 108]⟩) (numX 3 1000000 (eurU 1))).h.un.length 0, .int .i64 (binX ⟨#[60]⟩ (feaX ⟨#[116, 111, 116, 97, 108]⟩) (numX 3 1000000 (eurU 1))).h.pa, .int .i64 (binX ⟨#[60]⟩ (feaX ⟨#[116, 111, 116, 97, 108]⟩) (numX 3 1000000 (eurU 1))).h.wk, .int .i64 (binX ⟨#[60]⟩ (feaX ⟨#[116, 111, 116, 97, 108]⟩) (numX 3 1000000 (eurU 1))).h.ws, .slice (some ⟨gB, 0, none⟩) 2 2, .int .i64 (numX 2 1 []).h.k, .string (numX 2 1 []).h.op, .string (numX 2 1 []).h.nm, .string (numX 2 1 []).h.tb, .int .i64 (numX 2 1 []).h.vk, .int .i64 (numX 2 1 []).h.vn, .string (numX 2 1 []).h.vs, .slice none (numX 2 1 []).h.un.length 0, .int .i64 (numX 2 1 []).h.pa, .int .i64 (numX 2 1 []).h.wk, .int .i64 (numX 2 1 []).h.ws, .slice none 0 0, .int .i64 nulX.h.k, .string nulX.h.op, .string nulX.h.nm, .string nulX.h.tb, .int .i64 nulX.h.vk, .int .i64 nulX.h.vn, .string nulX.h.vs, .slice none nulX.h.un.length 0, .int .i64 nulX.h.pa, .int .i64 nulX.h.wk, .int .i64 nulX.h.ws, .slice (some ⟨W6.heap.size, 0, none⟩) 1 1])
                  clear bz5
                  have hb5 := balloc hH (.cells #[.int .i64 (binX ⟨#[60]⟩ (feaX ⟨#[116, 111, 116, 97, 108]⟩) (numX 3 1000000 (eurU 1))).h.k, .string (binX ⟨#[60]⟩ (feaX ⟨#[116, 111, 116, 97, 108]⟩) (numX 3 1000000 (eurU 1))).h.op, .string (binX ⟨#[60]⟩ (feaX ⟨#[116, 111, 116, 97, 108]⟩) (numX 3 1000000 (eurU 1))).h.nm, .string (binX ⟨#[60]⟩ (feaX ⟨#[116, 111, 116, 97, 108]⟩) (numX 3 1000000 (eurU 1))).h.tb, .int .i64 (binX ⟨#[60]⟩ (feaX ⟨#[116, 111, 116, 97, 108]⟩) (numX 3 1000000 (eurU 1))).h.vk, .int .i64 (binX ⟨#[60]⟩ (feaX ⟨#[116, 111, 116, 97, 108]⟩) (numX 3 1000000 (eurU 1))).h.vn, .string (binX ⟨#[60]⟩ (feaX ⟨#[116, 111, 116, 97, 108]⟩) (numX 3 1000000 (eurU 1))).h.vs, .slice none (binX ⟨#[60]⟩ (feaX ⟨#[116, 111, 116, 97, 108]⟩) (numX 3 1000000 (eurU 1))).h.un.length 0, .int .i64 (binX ⟨#[60]⟩ (feaX ⟨#[116, 111, 116, 97, 108]⟩) (numX 3 1000000 (eurU 1))).h.pa, .int .i64 (binX ⟨#[60]⟩ (feaX ⟨#[116, 111, 116, 97, 108]⟩) (numX 3 1000000 (eurU 1))).h.wk, .int .i64 (binX ⟨#[60]⟩ (feaX ⟨#[116, 111, 116, 97, 108]⟩) (numX 3 1000000 (eurU 1))).h.ws, .slice (some ⟨gB, 0, none⟩) 2 2, .int .i64 (numX 2 1 []).h.k, .string (numX 2 1 []).h.op, .string (numX 2 1 []).h.nm, .string (numX 2 1 []).h.tb, .int .i64 (numX 2 1 []).h.vk, .int .i64 (numX 2 1 []).h.vn, .string (numX 2 1 []).h.vs, .slice none (numX 2 1 []).h.un.length 0, .int .i64 (numX 2 1 []).h.pa, .int .i64 (numX 2 1 []).h.wk, .int .i64 (numX 2 1 []).h.ws, .slice none 0 0, .int .i64 nulX.h.k, .string nulX.h.op, .string nulX.h.nm, .string nulX.h.tb, .int .i64 nulX.h.vk, .int .i64 nulX.h.vn, .string nulX.h.vs, .slice none nulX.h.un.length 0, .int .i64 nulX.h.pa, .int .i64 nulX.h.wk, .int .i64 nulX.h.ws, .slice (some ⟨W6.heap.size, 0, none⟩) 1 1] 29)
                  obtain ⟨y5, hz5⟩ : ∃ W, W = y4.alloc (.cells #[.int .i64 (binX ⟨#[60]⟩ (feaX ⟨#[116, 111, 116, 97, 108]⟩) (numX 3 1000000 (eurU 1))).h.k, .string (binX ⟨#[60]⟩ (feaX ⟨#[116, 111, 116, 97, 108]⟩) (numX 3 1000000 (eurU 1))).h.op, .string (binX ⟨#[60]⟩ (feaX ⟨#[116, 111, 116, 97, 108]⟩) (numX 3 1000000 (eurU 1))).h.nm, .string (binX ⟨#[60]⟩ (feaX ⟨#[116, 111, 116, 97, 108]⟩) (numX 3 1000000 (eurU 1))).h.tb, .int .i64 (binX ⟨#[60]⟩ (feaX ⟨#[116, 111, 116, 97, 108]⟩) (numX 3 1000000 (eurU 1))).h.vk, .int .i64 (binX ⟨#[60]⟩ (feaX ⟨#[116, 111, 116, 97, 108]⟩) (numX 3 1000000 (eurU 1))).h.vn, .string (binX ⟨#[60]⟩ (feaX ⟨#[116, 111, 116, 97, 108]⟩) (numX 3 1000000 (eurU 1))).h.vs, .slice none (binX ⟨#[60]⟩ (feaX ⟨#[116, 111, 116, 97, 108]⟩) (numX 3 1000000 (eurU 1))).h.un.length 0, .int .i64 (binX ⟨#[60]⟩ (feaX ⟨#[116, 111, 116, 97, 108]⟩) (numX 3 1000000 (eurU 1))).h.pa, .int .i64 (binX ⟨#[60]⟩ (feaX ⟨#[116, 111, 116, 97, 108]⟩) (numX 3 1000000 (eurU 1))).h.wk, .int .i64 (binX ⟨#[60]⟩ (feaX ⟨#[116, 111, 116, 97, 108]⟩) (numX 3 1000000 (eurU 1))).h.ws, .slice (some ⟨gB, 0, none⟩) 2 2, .int .i64 (numX 2 1 []).h.k, .string (numX 2 1 []).h.op, .string (numX 2 1 []).h.nm, .string (numX 2 1 []).h.tb, .int .i64 (numX 2 1 []).h.vk, .int .i64 (numX 2 1 []).h.vn, .string (numX 2 1 []).h.vs, .slice none (numX 2 1 []).h.un.length 0, .int .i64 (numX 2 1 []).h.pa, .int .i64 (numX 2 1 []).h.wk, .int .i64 (numX 2 1 []).h.ws, .slice none 0 0, .int .i64 nulX.h.k, .string nulX.h.op, .string nulX.h.nm, .string nulX.h.tb, .int .i64 nulX.h.vk, .int .i64 nulX.h.vn, .string nulX.h.vs, .slice none nulX.h.un.length 0, .int .i64 nulX.h.pa, .int .i64 nulX.h.wk, .int .i64 nulX.h.ws, .slice (some ⟨W6.heap.size, 0, none⟩) 1 1] 29) := ⟨_, rfl⟩
                  rw [← hz5] at hb5 XE XB XS
                  refine at_world y5 hz5 ?_
                  refine hK.out _ _ hb5 (fun hH => ?_)
                  clear hK K hz5 hb5
                  generalize y4.heap.size = gS at *
                  refine held_take (i := 7) (d := 54) (v := ?_) rfl (by kernel_rfl) (by kernel_rfl) (by kernel_rfl) rfl (fun _ _ _ h => h) rfl hH (fun w' hS => ?_) ?_
                  rotate_left
                  · go_simp; first | done | with_reducible rfl
                  simp only [List.set_cons_zero, List.set_cons_succ]
                  refine held_only (i := 8) rfl (by kernel_rfl) rfl (fun K hK => ?_)
                  go_simp
                  have lb := Lib.hid hH.size
                  have eXE := Lib.hid (Nat.ne_of_lt XE.out.lt)
                  have eXB := Lib.hid (Nat.ne_of_lt XB.out.lt)
                  have eXS := Lib.hid (Nat.ne_of_lt XS.out.lt)
                  refine hK.out _ _ (balloc hH _) (fun hH => ?_)
                  clear hK K
                  have N6 := Lib.hid (Blk.new y5 29 #[.int .i64 0, .string ⟨#[]⟩, .string ⟨#[]⟩, .string ⟨#[]⟩, .int .i64 0, .int .i64 0, .string ⟨#[]⟩, .slice none 0 0, .int .i64 0, .int .i64 0, .int .i64 0, .slice none 0 0])
                  have lt6 := Lib.hid (show y5.heap.size < (y5.alloc (.cells #[.int .i64 0, .string ⟨#[]⟩, .string ⟨#[]⟩, .string ⟨#[]⟩, .int .i64 0, .int .i64 0, .string ⟨#[]⟩, .slice none 0 0, .int .i64 0, .int .i64 0, .int .i64 0, .slice none 0 0] 29)).heap.size from by rw [sz_al]; omega)
                  have bz6 := balloc (b0 y5) (.cells #[.int .i64 0, .string ⟨#[]⟩, .string ⟨#[]⟩, .string ⟨#[]⟩, .int .i64 0, .int .i64 0, .string ⟨#[]⟩, .slice none 0 0, .int .i64 0, .int .i64 0, .int .i64 0, .slice none 0 0] 29)
                  replace XE := Lib.hid (XE.out.keeps bz6)
                  replace XB := Lib.hid (XB.out.keeps bz6)
                  replace XS := Lib.hid (XS.out.keeps bz6)
                  clear bz6
                  generalize hz : (y5.alloc (.cells #[.int .i64 0, .string ⟨#[]⟩, .string ⟨#[]⟩, .string ⟨#[]⟩, .int .i64 0, .int .i64 0, .string ⟨#[]⟩, .slice none 0 0, .int .i64 0, .int .i64 0, .int .i64 0, .slice none 0 0] 29)) = y6 at *
                  clear hz
                  generalize y5.heap.size = g6 at *
                  refine held_only (i := 9) rfl (by kernel_rfl) rfl (fun K hK => ?_)
                  refine op_storeT infX (.tmp 6) (.tmp 54) rfl g6 _ (exC choX.h 3 none 0 (some ⟨gS, 0, none⟩) 3) _ rfl rfl N6.out rfl rfl (by simp [exC, Value.oneCell']) ?_
                  intro y9 L9 hs9
                  refine hK.out _ _ (hH.trans (hs9.below lb.out)) (fun hH => ?_)
                  clear hK K
                  have x1 := XE.out.st hs9 eXE.out
                  have x2 := XB.out.st hs9 eXB.out
                  have x3 := XS.out.st hs9 eXS.out
                  refine wpAnyH_done (by kernel_rfl) ?_ _
                  go_wp2_with fail
                  go_meet
                  case rel => exact ⟨g6, _, rfl, Lib.hid ⟨rfl, L9⟩, Lib.hid ⟨none, 0, some ⟨gS, 0, none⟩, 3, rfl, .nil _, fs_three (x := lesX) (y := numX 2 1 []) (z := nulX) ⟨.nil _, fs_two (x := feaX ⟨#[116, 111, 116, 97, 108]⟩) (y := numX 3 1000000 (eurU 1)) (EE.out _) ⟨sl_one x1, Fs.nil _⟩ x2 rfl⟩ ⟨.nil _, Fs.nil _⟩ (HN.out.keeps hH) x3 (by kernel_rfl)⟩, Lib.hid hH⟩
                · go_simp
                  have lb := Lib.hid hH.size
                  have eXE := Lib.hid (Nat.ne_of_lt XE.out.lt)
                  have eXB := Lib.hid (Nat.ne_of_lt XB.out.lt)
                  refine hK.out _ _ (balloc hH _) (fun hH => ?_)
                  clear hK K
                  have N7 := Lib.hid (Blk.new y4 29 #[.int .i64 0, .string ⟨#[]⟩, .string ⟨#[]⟩, .string ⟨#[]⟩, .int .i64 0, .int .i64 0, .string ⟨#[]⟩, .slice none 0 0, .int .i64 0, .int .i64 0, .int .i64 0, .slice none 0 0])
                  have lt7 := Lib.hid (show y4.heap.size < (y4.alloc (.cells #[.int .i64 0, .string ⟨#[]⟩, .string ⟨#[]⟩, .string ⟨#[]⟩, .int .i64 0, .int .i64 0, .string ⟨#[]⟩, .slice none 0 0, .int .i64 0, .int .i64 0, .int .i64 0, .slice none 0 0] 29)).heap.size from by rw [sz_al]; omega)
                  have bz7 := balloc (b0 y4) (.cells #[.int .i64 0, .string ⟨#[]⟩, .string ⟨#[]⟩, .string ⟨#[]⟩, .int .i64 0, .int .i64 0, .string ⟨#[]⟩, .slice none 0 0, .int .i64 0, .int .i64 0, .int .i64 0, .slice none 0 0] 29)
                  replace XE := Lib.hid (XE.out.keeps bz7)
                  replace XB := Lib.hid (XB.out.keeps bz7)
                  clear bz7
                  generalize hz : (y4.alloc (.cells #[.int .i64 0, .string ⟨#[]⟩, .string ⟨#[]⟩, .string ⟨#[]⟩, .int .i64 0, .int .i64 0, .string ⟨#[]⟩, .slice none 0 0, .int .i64 0, .int .i64 0, .int .i64 0, .slice none 0 0] 29)) = y7 at *
                  clear hz
                  generalize y4.heap.size = g7 at *
                  refine held_only (i := 6) rfl (by kernel_rfl) rfl (fun K hK => ?_)
                  unfold exC
                  go_simp
                  have bz8 := balloc (b0 y7) (.cells #[.int .i64 (binX ⟨#[60]⟩ (feaX ⟨#[116, 111, 116, 97, 108]⟩) (numX 3 1000000 (eurU 1))).h.k, .string (binX ⟨#[60]⟩ (feaX ⟨#[116, 111, 116, 97, 108]⟩) (numX 3 1000000 (eurU 1))).h.op, .string (binX ⟨#[60]⟩ (feaX ⟨#[116, 111, 116, 97, 108]⟩) (numX 3 1000000 (eurU 1))).h.nm, .string (binX ⟨#[60]⟩ (feaX ⟨#[116, 111, 116, 97, 108]⟩) (numX 3 1000000 (eurU 1))).h.tb, .int .i64 (binX ⟨#[60]⟩ (feaX ⟨#[116, 111, 116, 97, 108]⟩) (numX 3 1000000 (eurU 1))).h.vk, .int .i64 (binX ⟨#[60]⟩ (feaX ⟨#[116, 111, 116, 97, 108]⟩) (numX 3 1000000 (eurU 1))).h.vn, .string (binX ⟨#[60]⟩ (feaX ⟨#[116, 111, 116, 97, 108]⟩) (numX 3 1000000 (eurU 1))).h.vs, .slice none (binX ⟨#[60]⟩ (feaX ⟨#[116, 111, 116, 97, 108]⟩) (numX 3 1000000 (eurU 1))).h.un.length 0, .int .i64 (binX ⟨#[60]⟩ (feaX ⟨#[116, 111, 116, 97, 108]⟩) (numX 3 1000000 (eurU 1))).h.pa, .int .i64 (binX ⟨#[60]⟩ (feaX ⟨#[116, 111, 116, 97, 108]⟩) (numX 3 1000000 (eurU 1))).h.wk, .int .i64 (binX ⟨#[60]⟩ (feaX ⟨#[116, 111, 116, 97, 108]⟩) (numX 3 1000000 (eurU 1))).h.ws, .slice (some ⟨gB, 0, none⟩) 2 2, .int .i64 (numX 2 1 []).h.k, .string (numX 2 1 []).h.op, .string (numX 2 1 []).h.nm, .string (numX 2 1 []).h.tb, .int .i64 (numX 2 1 []).h.vk, .int .i64 (numX 2 1 []).h.vn, .string (numX 2 1 []).h.vs, .slice none (numX 2 1 []).h.un.length 0, .int .i64 (numX 2 1 []).h.pa, .int .i64 (numX 2 1 []).h.wk, .int .i64 (numX 2 1 []).h.ws, .slice none 0 0, .int .i64 nulX.h.k, .string nulX.h.op, .string nulX.h.nm, .string nulX.h.tb, .int .i64 nulX.h.vk, .int .i64 nulX.h.vn, .string nulX.h.vs, .slice none nulX.h.un.length 0, .int .i64 nulX.h.pa, .int .i64 nulX.h.wk, .int .i64 nulX.h.ws, .slice (some ⟨W6.heap.size, 0, none⟩) 1 1] 29)
                  replace XE := Lib.hid (XE.out.keeps bz8)
                  replace XB := Lib.hid (XB.out.keeps bz8)
                  replace N7 := Lib.hid (N7.out.keeps bz8)
                  have XS := Lib.hid (Blk.new y7 29 #[.int .i64 (binX ⟨#[60]⟩ (feaX ⟨#[116, 111, 116, 97, 108]⟩) (numX 3 1000000 (eurU 1))).h.k, .string (binX ⟨#[60]⟩ (feaX ⟨#[116, 111, 116, 97, 108]⟩) (numX 3 1000000 (eurU 1))).h.op, .string (binX ⟨#[60]⟩ (feaX ⟨#[116, 111, 116, 97, 108]⟩) (numX 3 1000000 (eurU 1))).h.nm, .string (binX ⟨#[60]⟩ (feaX ⟨#[116, 111, 116, 97, 108]⟩) (numX 3 1000000 (eurU 1))).h.tb, .int .i64 (binX ⟨#[60]⟩ (feaX ⟨#[116, 111, 116, 97, 108]⟩) (numX 3 1000000 (eurU 1))).h.vk, .int .i64 (binX ⟨#[60]⟩ (feaX ⟨#[116, 111, 116, 97, 108]⟩) (numX 3 1000000 (eurU 1))).h.vn, .string (binX ⟨#[60]⟩ (feaX ⟨#[116, 111, 116, 97, 108]⟩) (numX 3 1000000 (eurU 1))).h.vs, .slice none (binX ⟨#[60]⟩ (feaX ⟨#[116, 111, 116, 97, 108]⟩) (numX 3 1000000 (eurU 1))).h.un.length 0, .int .i64 (binX ⟨#[60]⟩ (feaX ⟨#[116, 111, 116, 97, 108]⟩) (numX 3 1000000 (eurU 1))).h.pa, .int .i64 (binX ⟨#[60]⟩ (feaX ⟨#[116, 111, 116, 97, 108]⟩) (numX 3 1000000 (eurU 1))).h.wk, .int .i64 (binX ⟨#[60]⟩ (feaX ⟨#[116, 111, 116, 97, 108]⟩) (numX 3 1000000 (eurU 1))).h.ws, .slice (some ⟨gB, 0, none⟩) 2 2, .int .i64 (numX 2 1 []).h.k, .string (numX 2 1 []).h.op, .string (numX 2 1 []).h.nm, .string (numX 2 1 []).h.tb, .int .i64 (numX 2 1 []).h.vk, .int .i64 (numX 2 1 []).h.vn, .string (numX 2 1 []).h.vs, .slice none (numX 2 1 []).h.un.length 0, .int .i64 (numX 2 1 []).h.pa, .int .i64 (numX 2 1 []).h.wk, .int .i64 (numX 2 1 []).h.ws, .slice none 0 0, .int .i64 nulX.h.k, .string nulX.h.op, .string nulX.h.nm, .string nulX.h.tb, .int .i64 nulX.h.vk, .int .i64 nulX.h.vn, .string nulX.h.vs, .slice none nulX.h.un.length 0, .int .i64 nulX.h.pa, .int .i64 nulX.h.wk, .int .i64 nulX.h.ws, .slice (some ⟨W6.heap.size, 0, none⟩) 1 1])
                  have eXS := Lib.hid (show y7.heap.size ≠ g7 from by have h1 := lt7.out; have h2 := Nat.le_refl y7.heap.size; omega)
                  replace lt7 := Lib.hid (Nat.lt_of_lt_of_le lt7.out bz8.size)
                  clear bz8
                  have hb8 := balloc hH (.cells #[.int .i64 (binX ⟨#[60]⟩ (feaX ⟨#[116, 111, 116, 97, 108]⟩) (numX 3 1000000 (eurU 1))).h.k, .string (binX ⟨#[60]⟩ (feaX ⟨#[116, 111, 116, 97, 108]⟩) (numX 3 1000000 (eurU 1))).h.op, .string (binX ⟨#[60]⟩ (feaX ⟨#[116, 111, 116, 97, 108]⟩) (numX 3 1000000 (eurU 1))).h.nm, .string (binX ⟨#[60]⟩ (feaX ⟨#[116, 111, 116, 97, 108]⟩) (numX 3 1000000 (eurU 1))).h.tb, .int .i64 (binX ⟨#[60]⟩ (feaX ⟨#[116, 111, 116, 97, 108]⟩) (numX 3 1000000 (eurU 1))).h.vk, .int .i64 (binX ⟨#[60]⟩ (feaX ⟨#[116, 111, 116, 97, 108]⟩) (numX 3 1000000 (eurU 1))).h.vn, .string (binX ⟨#[60]⟩ (feaX ⟨#[116, 111, 116, 97, 108]⟩) (numX 3 1000000 (eurU 1))).h.vs, .slice none (binX ⟨#[60]⟩ (feaX ⟨#[116, 111, 116, 97, 108]⟩) (numX 3 1000000 (eurU 1))).h.un.length 0, .int .i64 (binX ⟨#[60]⟩ (feaX ⟨#[116, 111, 116, 97, 108]⟩) (numX 3 1000000 (eurU 1))).h.pa, .int .i64 (binX ⟨#[60]⟩ (feaX ⟨#[116, 111, 116, 97, 108]⟩) (numX 3 1000000 (eurU 1))).h.wk, .int .i64 (binX ⟨#[60]⟩ (feaX ⟨#[116, 111, 116, 97, 108]⟩) (numX 3 1000000 (eurU 1))).h.ws, .slice (some ⟨gB, 0, none⟩) 2 2, .int .i64 (numX 2 1 []).h.k, .string (numX 2 1 []).h.op, .string (numX 2 1 []).h.nm, .string (numX 2 1 []).h.tb, .int .i64 (numX 2 1 []).h.vk, .int .i64 (numX 2 1 []).h.vn, .string (numX 2 1 []).h.vs, .slice none (numX 2 1 []).h.un.length 0, .int .i64 (numX 2 1 []).h.pa, .int .i64 (numX 2 1 []).h.wk, .int .i64 (numX 2 1 []).h.ws, .slice none 0 0, .int .i64 nulX.h.k, .string nulX.h.op, .string nulX.h.nm, .string nulX.h.tb, .int .i64 nulX.h.vk, .int .i64 nulX.h.vn, .string nulX.h.vs, .slice none nulX.h.un.length 0, .int .i64 nulX.h.pa, .int .i64 nulX.h.wk, .int .i64 nulX.h.ws, .slice (some ⟨W6.heap.size, 0, none⟩) 1 1] 29)
                  obtain ⟨y8, hz8⟩ : ∃ W, W = y7.alloc (.cells #[.int .i64 (binX ⟨#[60]⟩ (feaX ⟨#[116, 111, 116, 97, 108]⟩) (numX 3 1000000 (eurU 1))).h.k, .string (binX ⟨#[60]⟩ (feaX ⟨#[116, 111, 116, 97, 108]⟩) (numX 3 1000000 (eurU 1))).h.op, .string (binX ⟨#[60]⟩ (feaX ⟨#[116, 111, 116, 97, 108]⟩) (numX 3 1000000 (eurU 1))).h.nm, .string (binX ⟨#[60]⟩ (feaX ⟨#[116, 111, 116, 97, 108]⟩) (numX 3 1000000 (eurU 1))).h.tb, .int .i64 (binX ⟨#[60]⟩ (feaX ⟨#[116, 111, 116, 97, 108]⟩) (numX 3 1000000 (eurU 1))).h.vk, .int .i64 (binX ⟨#[60]⟩ (feaX ⟨#[116, 111, 116, 97, 108]⟩) (numX 3 1000000 (eurU 1))).h.vn, .string (binX ⟨#[60]⟩ (feaX ⟨#[116, 111, 116, 97, 108]⟩) (numX 3 1000000 (eurU 1))).h.vs, .slice none (binX ⟨#[60]⟩ (feaX ⟨#[116, 111, 116, 97, 108]⟩) (numX 3 1000000 (eurU 1))).h.un.length 0, .int .i64 (binX ⟨#[60]⟩ (feaX ⟨#[116, 111, 116, 97, 108]⟩) (numX 3 1000000 (eurU 1))).h.pa, .int .i64 (binX ⟨#[60]⟩ (feaX ⟨#[116, 111, 116, 97, 108]⟩) (numX 3 1000000 (eurU 1))).h.wk, .int .i64 (binX ⟨#[60]⟩ (feaX ⟨#[116, 111, 116, 97, 108]⟩) (numX 3 1000000 (eurU 1))).h.ws, .slice (some ⟨gB, 0, none⟩) 2 2, .int .i64 (numX 2 1 []).h.k, .string (numX 2 1 []).h.op, .string (numX 2 1 []).h.nm, .string (numX 2 1 []).h.tb, .int .i64 (numX 2 1 []).h.vk, .int .i64 (numX 2 1 []).h.vn, .string (numX 2 1 []).h.vs, .slice none (numX 2 1 []).h.un.length 0, .int .i64 (numX 2 1 []).h.pa, .int .i64 (numX 2 1 []).h.wk, .int .i64 (numX 2 1 []).h.ws, .slice none 0 0, .int .i64 nulX.h.k, .string nulX.h.op, .string nulX.h.nm, .string nulX.h.tb, .int .i64 nulX.h.vk, .int .i64 nulX.h.vn, .string nulX.h.vs, .slice none nulX.h.un.length 0, .int .i64 nulX.h.pa, .int .i64 nulX.h.wk, .int .i64 nulX.h.ws, .slice (some ⟨W6.heap.size, 0, none⟩) 1 1] 29) := ⟨_, rfl⟩
                  rw [← hz8] at hb8 XE XB XS N7 lt7
                  refine at_world y8 hz8 ?_
                  refine hK.out _ _ hb8 (fun hH => ?_)
                  clear hK K hz8 hb8
                  generalize y7.heap.size = gS at *
                  refine held_take (i := 7) (d := 54) (v := ?_) rfl (by kernel_rfl) (by kernel_rfl) (by kernel_rfl) rfl (fun _ _ _ h => h) rfl hH (fun w' hS => ?_) ?_
                  rotate_left
                  · go_simp; first | done | with_reducible rfl
                  simp only [List.set_cons_zero, List.set_cons_succ]
                  refine held_only (i := 9) rfl (by kernel_rfl) rfl (fun K hK => ?_)
                  refine op_storeT infX (.tmp 6) (.tmp 54) rfl g7 _ (exC choX.h 3 none 0 (some ⟨gS, 0, none⟩) 3) _ rfl rfl N7.out rfl rfl (by simp [exC, Value.oneCell']) ?_
                  intro y9 L9 hs9
                  refine hK.out _ _ (hH.trans (hs9.below lb.out)) (fun hH => ?_)
                  clear hK K
                  have x1 := XE.out.st hs9 eXE.out
                  have x2 := XB.out.st hs9 eXB.out
                  have x3 := XS.out.st hs9 eXS.out
                  refine wpAnyH_done (by kernel_rfl) ?_ _
                  go_wp2_with fail
                  go_meet
                  case rel => exact ⟨g7, _, rfl, Lib.hid ⟨rfl, L9⟩, Lib.hid ⟨none, 0, some ⟨gS, 0, none⟩, 3, rfl, .nil _, fs_three (x := lesX) (y := numX 2 1 []) (z := nulX) ⟨.nil _, fs_two (x := feaX ⟨#[116, 111, 116, 97, 108]⟩) (y := numX 3 1000000 (eurU 1)) (EE.out _) ⟨sl_one x1, Fs.nil _⟩ x2 rfl⟩ ⟨.nil _, Fs.nil _⟩ (HN.out.keeps hH) x3 (by kernel_rfl)⟩, Lib.hid hH⟩
              · go_simp
                have lb := Lib.hid hH.size
                have eXE := Lib.hid (Nat.ne_of_lt XE.out.lt)
                have eXB := Lib.hid (Nat.ne_of_lt XB.out.lt)
                refine hK.out _ _ (balloc hH _) (fun hH => ?_)
                clear hK K
                have N9 := Lib.hid (Blk.new y3 29 #[.int .i64 0, .string ⟨#[]⟩, .string ⟨#[]⟩, .string ⟨#[]⟩, .int .i64 0, .int .i64 0, .string ⟨#[]⟩, .slice none 0 0, .int .i64 0, .int .i64 0, .int .i64 0, .slice none 0 0])
                have lt9 := Lib.hid (show y3.heap.size < (y3.alloc (.cells #[.int .i64 0, .string ⟨#[]⟩, .string ⟨#[]⟩, .string ⟨#[]⟩, .int .i64 0, .int .i64 0, .string ⟨#[]⟩, .slice none 0 0, .int .i64 0, .int .i64 0, .int .i64 0, .slice none 0 0] 29)).heap.size from by rw [sz_al]; omega)
                have bz9 := balloc (b0 y3) (.cells #[.int .i64 0, .string ⟨#[]⟩, .string ⟨#[]⟩, .string ⟨#[]⟩, .int .i64 0, .int .i64 0, .string ⟨#[]⟩, .slice none 0 0, .int .i64 0, .int .i64 0, .int .i64 0, .slice none 0 0] 29)
                replace XE := Lib.hid (XE.out.keeps bz9)
                replace XB := Lib.hid (XB.out.keeps bz9)
                clear bz9
                generalize hz : (y3.alloc (.cells #[.int .i64 0, .string ⟨#[]⟩, .string ⟨#[]⟩, .string ⟨#[]⟩, .int .i64 0, .int .i64 0, .string ⟨#[]⟩, .slice none 0 0, .int .i64 0, .int .i64 0, .int .i64 0, .slice none 0 0] 29)) = y9 at *
                clear hz
                generalize y3.heap.size = g9 at *
                refine held_only (i := 4) rfl (by kernel_rfl) rfl (fun K hK => ?_)
                go_simp
                refine (C4.out _).mono ?_
                rintro e y10 ⟨rfl, b10⟩
                refine hK.out _ _ (bnext hH b10) (fun hH => ?_)
                clear hK K
                replace XE := Lib.hid (XE.out.keeps b10)
                replace XB := Lib.hid (XB.out.keeps b10)
                replace N9 := Lib.hid (N9.out.keeps b10)
                replace lt9 := Lib.hid (Nat.lt_of_lt_of_le lt9.out b10.size)
                clear b10
                refine held_only (i := 6) rfl (by kernel_rfl) rfl (fun K hK => ?_)
                unfold exC
                go_simp
                have bz11 := balloc (b0 y10) (.cells #[.int .i64 (binX ⟨#[60]⟩ (feaX ⟨#[116, 111, 116, 97, 108]⟩) (numX 3 1000000 (eurU 1))).h.k, .string (binX ⟨#[60]⟩ (feaX ⟨#[116, 111, 116, 97, 108]⟩) (numX 3 1000000 (eurU 1))).h.op, .string (binX ⟨#[60]⟩ (feaX ⟨#[116, 111, 116, 97, 108]⟩) (numX 3 1000000 (eurU 1))).h.nm, .string (binX ⟨#[60]⟩ (feaX ⟨#[116, 111, 116, 97, 108]⟩) (numX 3 1000000 (eurU 1))).h.tb, .int .i64 (binX ⟨#[60]⟩ (feaX ⟨#[116, 111, 116, 97, 108]⟩) (numX 3 1000000 (eurU 1))).h.vk, .int .i64 (binX ⟨#[60]⟩ (feaX ⟨#[116, 111, 116, 97, 108]⟩) (numX 3 1000000 (eurU 1))).h.vn, .string (binX ⟨#[60]⟩ (feaX ⟨#[116, 111, 116, 97, 108]⟩) (numX 3 1000000 (eurU 1))).h.vs, .slice none (binX ⟨#[60]⟩ (feaX ⟨#[116, 111, 116, 97, 108]⟩) (numX 3 1000000 (eurU 1))).h.un.length 0, .int .i64 (binX ⟨#[60]⟩ (feaX ⟨#[116, 111, 116, 97, 108]⟩) (numX 3 1000000 (eurU 1))).h.pa, .int .i64 (binX ⟨#[60]⟩ (feaX ⟨#[116, 111, 116, 97, 108]⟩) (numX 3 1000000 (eurU 1))).h.wk, .int .i64 (binX ⟨#[60]⟩ (feaX ⟨#[116, 111, 116, 97, 108]⟩) (numX 3 1000000 (eurU 1))).h.ws, .slice (some ⟨gB, 0, none⟩) 2 2, .int .i64 (numX 2 1 []).h.k, .string (numX 2 1 []).h.op, .string (numX 2 1 []).h.nm, .string (numX 2 1 []).h.tb, .int .i64 (numX 2 1 []).h.vk, .int .i64 (numX 2 1 []).h.vn, .string (numX 2 1 []).h.vs, .slice none (numX 2 1 []).h.un.length 0, .int .i64 (numX 2 1 []).h.pa, .int .i64 (numX 2 1 []).h.wk, .int .i64 (numX 2 1 []).h.ws, .slice none 0 0, .int .i64 nulX.h.k, .string nulX.h.op, .string nulX.h.nm, .string nulX.h.tb, .int .i64 nulX.h.vk, .int .i64 nulX.h.vn, .string nulX.h.vs, .slice none nulX.h.un.length 0, .int .i64 nulX.h.pa, .int .i64 nulX.h.wk, .int .i64 nulX.h.ws, .slice (some ⟨W6.heap.size, 0, none⟩) 1 1] 29)
                replace XE := Lib.hid (XE.out.keeps bz11)
                replace XB := Lib.hid (XB.out.keeps bz11)
                replace N9 := Lib.hid (N9.out.keeps bz11)
                have XS := Lib.hid (Blk.new y10 29 #[.int .i64 (binX ⟨#[60]⟩ (feaX ⟨#[116, 111, 116, 97, 108]⟩) (numX 3 1000000 (eurU 1))).h.k, .string (binX ⟨#[60]⟩ (feaX ⟨#[116, 111, 116, 97, 108]⟩) (numX 3 1000000 (eurU 1))).h.op, .string (binX ⟨#[60]⟩ (feaX ⟨#[116, 111, 116, 97, 108]⟩) (numX 3 1000000 (eurU 1))).h.nm, .string (binX ⟨#[60]⟩ (feaX ⟨#[116, 111, 116, 97, 108]⟩) (numX 3 1000000 (eurU 1))).h.tb, .int .i64 (binX ⟨#[60]⟩ (feaX ⟨#[116, 111, 116, 97, 108]⟩) (numX 3 1000000 (eurU 1))).h.vk, .int .i64 (binX ⟨#[60]⟩ (feaX ⟨#[116, 111, 116, 97, 108]⟩) (numX 3 1000000 (eurU 1))).h.vn, .string (binX ⟨#[60]⟩ (feaX ⟨#[116, 111, 116, 97, 108]⟩) (numX 3 1000000 (eurU 1))).h.vs, .slice none (binX ⟨#[60]⟩ (feaX ⟨#[116, 111, 116, 97, 108]⟩) (numX 3 1000000 (eurU 1))).h.un.length 0, .int .i64 (binX ⟨#[60]⟩ (feaX ⟨#[116, 111, 116, 97, 108]⟩) (numX 3 1000000 (eurU 1))).h.pa, .int .i64 (binX ⟨#[60]⟩ (feaX ⟨#[116, 111, 116, 97, 108]⟩) (numX 3 1000000 (eurU 1))).h.wk, .int .i64 (binX ⟨#[60]⟩ (feaX ⟨#[116, 111, 116, 97, 108]⟩) (numX 3 1000000 (eurU 1))).h.ws, .slice (some ⟨gB, 0, none⟩) 2 2, .int .i64 (numX 2 1 []).h.k, .string (numX 2 1 []).h.op, .string (numX 2 1 []).h.nm, .string (numX 2 1 []).h.tb, .int .i64 (numX 2 1 []).h.vk, .int .i64 (numX 2 1 []).h.vn, .string (numX 2 1 []).h.vs, .slice none (numX 2 1 []).h.un.length 0, .int .i64 (numX 2 1 []).h.pa, .int .i64 (numX 2 1 []).h.wk, .int .i64 (numX 2 1 []).h.ws, .slice none 0 0, .int .i64 nulX.h.k, .string nulX.h.op, .string nulX.h.nm, .string nulX.h.tb, .int .i64 nulX.h.vk, .int .i64 nulX.h.vn, .string nulX.h.vs, .slice none nulX.h.un.length 0, .int .i64 nulX.h.pa, .int .i64 nulX.h.wk, .int .i64 nulX.h.ws, .slice (some ⟨W6.heap.size, 0, none⟩) 1 1])
                have eXS := Lib.hid (show y10.heap.size ≠ g9 from by have h1 := lt9.out; have h2 := Nat.le_refl y10.heap.size; omega)
                replace lt9 := Lib.hid (Nat.lt_of_lt_of_le lt9.out bz11.size)
                clear bz11
                have hb11 := balloc hH (.cells #[.int .i64 (binX ⟨#[60]⟩ (feaX ⟨#[116, 111, 116, 97, 108]⟩) (numX 3 1000000 (eurU 1))).h.k, .string (binX ⟨#[60]⟩ (feaX ⟨#[116, 111, 116, 97, 108]⟩) (numX 3 1000000 (eurU 1))).h.op, .string (binX ⟨#[60]⟩ (feaX ⟨#[116, 111, 116, 97, 108]⟩) (numX 3 1000000 (eurU 1))).h.nm, .string (binX ⟨#[60]⟩ (feaX ⟨#[116, 111, 116, 97, 108]⟩) (numX 3 1000000 (eurU 1))).h.tb, .int .i64 (binX ⟨#[60]⟩ (feaX ⟨#[116, 111, 116, 97, 108]⟩) (numX 3 1000000 (eurU 1))).h.vk, .int .i64 (binX ⟨#[60]⟩ (feaX ⟨#[116, 111, 116, 97, 108]⟩) (numX 3 1000000 (eurU 1))).h.vn, .string (binX ⟨#[60]⟩ (feaX ⟨#[116, 111, 116, 97, 108]⟩) (numX 3 1000000 (eurU 1))).h.vs, .slice none (binX ⟨#[60]⟩ (feaX ⟨#[116, 111, 116, 97, 108]⟩) (numX 3 1000000 (eurU 1))).h.un.length 0, .int .i64 (binX ⟨#[60]⟩ (feaX ⟨#[116, 111, 116, 97, 108]⟩) (numX 3 1000000 (eurU 1))).h.pa, .int .i64 (binX ⟨#[60]⟩ (feaX ⟨#[116, 111, 116, 97, 108]⟩) (numX 3 1000000 (eurU 1))).h.wk, .int .i64 (binX ⟨#[60]⟩ (feaX ⟨#[116, 111, 116, 97, 108]⟩) (numX 3 1000000 (eurU 1))).h.ws, .slice (some ⟨gB, 0, none⟩) 2 2, .int .i64 (numX 2 1 []).h.k, .string (numX 2 1 []).h.op, .string (numX 2 1 []).h.nm, .string (numX 2 1 []).h.tb, .int .i64 (numX 2 1 []).h.vk, .int .i64 (numX 2 1 []).h.vn, .string (numX 2 1 []).h.vs, .slice none (numX 2 1 []).h.un.length 0, .int .i64 (numX 2 1 []).h.pa, .int .i64 (numX 2 1 []).h.wk, .int .i64 (numX 2 1 []).h.ws, .slice none 0 0, .int .i64 nulX.h.k, .string nulX.h.op, .string nulX.h.nm, .string nulX.h.tb, .int .i64 nulX.h.vk, .int .i64 nulX.h.vn, .string nulX.h.vs, .slice none nulX.h.un.length 0, .int .i64 nulX.h.pa, .int .i64 nulX.h.wk, .int .i64 nulX.h.ws, .slice (some ⟨W6.heap.size, 0, none⟩) 1 1] 29)
                obtain ⟨y11, hz11⟩ : ∃ W, W = y10.alloc (.cells #[.int .i64 (binX ⟨#[60]⟩ (feaX ⟨#[116, 111, 116, 97, 108]⟩) (numX 3 1000000 (eurU 1))).h.k, .string (binX ⟨#[60]⟩ (feaX ⟨#[116, 111, 116, 97, 108]⟩) (numX 3 1000000 (eurU 1))).h.op, .string (binX ⟨#[60]⟩ (feaX ⟨#[116, 111, 116, 97, 108]⟩) (numX 3 1000000 (eurU 1))).h.nm, .string (binX ⟨#[60]⟩ (feaX ⟨#[116, 111, 116, 97, 108]⟩) (numX 3 1000000 (eurU 1))).h.tb, .int .i64 (binX ⟨#[60]⟩ (feaX ⟨#[116, 111, 116, 97, 108]⟩) (numX 3 1000000 (eurU 1))).h.vk, .int .i64 (binX ⟨#[60]⟩ (feaX ⟨#[116, 111, 116, 97, 108]⟩) (numX 3 1000000 (eurU 1))).h.vn, .string (binX ⟨#[60]⟩ (feaX ⟨#[116, 111, 116, 97, 108]⟩) (numX 3 1000000 (eurU 1))).h.vs, .slice none (binX ⟨#[60]⟩ (feaX ⟨#[116, 111, 116, 97, 108]⟩) (numX 3 1000000 (eurU 1))).h.un.length 0, .int .i64 (binX ⟨#[60]⟩ (feaX ⟨#[116, 111, 116, 97, 108]⟩) (numX 3 1000000 (eurU 1))).h.pa, .int .i64 (binX ⟨#[60]⟩ (feaX ⟨#[116, 111, 116, 97, 108]⟩) (numX 3 1000000 (eurU 1))).h.wk, .int .i64 (binX ⟨#[60]⟩ (feaX ⟨#[116, 111, 116, 97, 108]⟩) (numX 3 1000000 (eurU 1))).h.ws, .slice (some ⟨gB, 0, none⟩) 2 2, .int .i64 (numX 2 1 []).h.k, .string (numX 2 1 []).h.op, .string (numX 2 1 []).h.nm, .string (numX 2 1 []).h.tb, .int .i64 (numX 2 1 []).h.vk, .int .i64 (numX 2 1 []).h.vn, .string (numX 2 1 []).h.vs, .slice none (numX 2 1 []).h.un.length 0, .int .i64 (numX 2 1 []).h.pa, .int .i64 (numX 2 1 []).h.wk, .int .i64 (numX 2 1 []).h.ws, .slice none 0 0, .int .i64 nulX.h.k, .string nulX.h.op, .string nulX.h.nm, .string nulX.h.tb, .int .i64 nulX.h.vk, .int .i64 nulX.h.vn, .string nulX.h.vs, .slice none nulX.h.un.length 0, .int .i64 nulX.h.pa, .int .i64 nulX.h.wk, .int .i64 nulX.h.ws, .slice (some ⟨W6.heap.size, 0, none⟩) 1 1] 29) := ⟨_, rfl⟩
                rw [← hz11] at hb11 XE XB XS N9 lt9
                refine at_world y11 hz11 ?_
                refine hK.out _ _ hb11 (fun hH => ?_)
                clear hK K hz11 hb11
                generalize y10.heap.size = gS at *
                refine held_take (i := 7) (d := 54) (v := ?_) rfl (by kernel_rfl) (by kernel_rfl) (by kernel_rfl) rfl (fun _ _ _ h => h) rfl hH (fun w' hS => ?_) ?_
                rotate_left
                · go_simp; first | done | with_reducible rfl
                simp only [List.set_cons_zero, List.set_cons_succ]
                refine held_only (i := 9) rfl (by kernel_rfl) rfl (fun K hK => ?_)
                refine op_storeT infX (.tmp 6) (.tmp 54) rfl g9 _ (exC choX.h 3 none 0 (some ⟨gS, 0, none⟩) 3) _ rfl rfl N9.out rfl rfl (by simp [exC, Value.oneCell']) ?_
                intro y9 L9 hs9
                refine hK.out _ _ (hH.trans (hs9.below lb.out)) (fun hH => ?_)
                clear hK K
                have x1 := XE.out.st hs9 eXE.out
                have x2 := XB.out.st hs9 eXB.out
                have x3 := XS.out.st hs9 eXS.out
                refine wpAnyH_done (by kernel_rfl) ?_ _
                go_wp2_with fail
                go_meet
                case rel => exact ⟨g9, _, rfl, Lib.hid ⟨rfl, L9⟩, Lib.hid ⟨none, 0, some ⟨gS, 0, none⟩, 3, rfl, .nil _, fs_three (x := lesX) (y := numX 2 1 []) (z := nulX) ⟨.nil _, fs_two (x := feaX ⟨#[116, 111, 116, 97, 108]⟩) (y := numX 3 1000000 (eurU 1)) (EE.out _) ⟨sl_one x1, Fs.nil _⟩ x2 rfl⟩ ⟨.nil _, Fs.nil _⟩ (HN.out.keeps hH) x3 (by kernel_rfl)⟩, Lib.hid hH⟩
            · go_simp
              have lb := Lib.hid hH.size
              have eXE := Lib.hid (Nat.ne_of_lt XE.out.lt)
              refine hK.out _ _ (balloc hH _) (fun hH => ?_)
              clear hK K
              have N12 := Lib.hid (Blk.new y2 29 #[.int .i64 0, .string ⟨#[]⟩, .string ⟨#[]⟩, .string ⟨#[]⟩, .int .i64 0, .int .i64 0, .string ⟨#[]⟩, .slice none 0 0, .int .i64 0, .int .i64 0, .int .i64 0, .slice none 0 0])
              have lt12 := Lib.hid (show y2.heap.size < (y2.alloc (.cells #[.int .i64 0, .string ⟨#[]⟩, .string ⟨#[]⟩, .string ⟨#[]⟩, .int .i64 0, .int .i64 0, .string ⟨#[]⟩, .slice none 0 0, .int .i64 0, .int .i64 0, .int .i64 0, .slice none 0 0] 29)).heap.size from by rw [sz_al]; omega)
              have bz12 := balloc (b0 y2) (.cells #[.int .i64 0, .string ⟨#[]⟩, .string ⟨#[]⟩, .string ⟨#[]⟩, .int .i64 0, .int .i64 0, .string ⟨#[]⟩, .slice none 0 0, .int .i64 0, .int .i64 0, .int .i64 0, .slice none 0 0] 29)
              replace XE := Lib.hid (XE.out.keeps bz12)
              clear bz12
              generalize hz : (y2.alloc (.cells #[.int .i64 0, .string ⟨#[]⟩, .string ⟨#[]⟩, .string ⟨#[]⟩, .int .i64 0, .int .i64 0, .string ⟨#[]⟩, .slice none 0 0, .int .i64 0, .int .i64 0, .int .i64 0, .slice none 0 0] 29)) = y12 at *
              clear hz
              generalize y2.heap.size = g12 at *
              refine held_only (i := 3) rfl (by kernel_rfl) rfl (fun K hK => ?_)
              go_simp
              refine (C3.out gE _).mono ?_
              rintro e y13 ⟨gB, rfl, xB, hB1, b13⟩
              refine hK.out _ _ (bnext hH b13) (fun hH => ?_)
              clear hK K
              replace XE := Lib.hid (XE.out.keeps b13)
              replace N12 := Lib.hid (N12.out.keeps b13)
              have XB := Lib.hid xB
              have eXB := Lib.hid (show gB ≠ g12 from by have h1 := lt12.out; have h2 := hB1; omega)
              replace lt12 := Lib.hid (Nat.lt_of_lt_of_le lt12.out b13.size)
              clear b13 xB hB1
              refine held_only (i := 4) rfl (by kernel_rfl) rfl (fun K hK => ?_)
              go_simp
              refine (C4.out _).mono ?_
              rintro e y14 ⟨rfl, b14⟩
              refine hK.out _ _ (bnext hH b14) (fun hH => ?_)
              clear hK K
              replace XE := Lib.hid (XE.out.keeps b14)
              replace XB := Lib.hid (XB.out.keeps b14)
              replace N12 := Lib.hid (N12.out.keeps b14)
              replace lt12 := Lib.hid (Nat.lt_of_lt_of_le lt12.out b14.size)
              clear b14
              refine held_only (i := 6) rfl (by kernel_rfl) rfl (fun K hK => ?_)
              unfold exC
              go_simp
              have bz15 := balloc (b0 y14) (.cells #[.int .i64 (binX ⟨#[60]⟩ (feaX ⟨#[116, 111, 116, 97, 108]⟩) (numX 3 1000000 (eurU 1))).h.k, .string (binX ⟨#[60]⟩ (feaX ⟨#[116, 111, 116, 97, 108]⟩) (numX 3 1000000 (eurU 1))).h.op, .string (binX ⟨#[60]⟩ (feaX ⟨#[116, 111, 116, 97, 108]⟩) (numX 3 1000000 (eurU 1))).h.nm, .string (binX ⟨#[60]⟩ (feaX ⟨#[116, 111, 116, 97, 108]⟩) (numX 3 1000000 (eurU 1))).h.tb, .int .i64 (binX ⟨#[60]⟩ (feaX ⟨#[116, 111, 116, 97, 108]⟩) (numX 3 1000000 (eurU 1))).h.vk, .int .i64 (binX ⟨#[60]⟩ (feaX ⟨#[116, 111, 116, 97, 108]⟩) (numX 3 1000000 (eurU 1))).h.vn, .string (binX ⟨#[60]⟩ (feaX ⟨#[116, 111, 116, 97, 108]⟩) (numX 3 1000000 (eurU 1))).h.vs, .slice none (binX ⟨#[60]⟩ (feaX ⟨#[116, 111, 116, 97, 108]⟩) (numX 3 1000000 (eurU 1))).h.un.length 0, .int .i64 (binX ⟨#[60]⟩ (feaX ⟨#[116, 111, 116, 97, 108]⟩) (numX 3 1000000 (eurU 1))).h.pa, .int .i64 (binX ⟨#[60]⟩ (feaX ⟨#[116, 111, 116, 97, 108]⟩) (numX 3 1000000 (eurU 1))).h.wk, .int .i64 (binX ⟨#[60]⟩ (feaX ⟨#[116, 111, 116, 97, 108]⟩) (numX 3 1000000 (eurU 1))).h.ws, .slice (some ⟨gB, 0, none⟩) 2 2, .int .i64 (numX 2 1 []).h.k, .string (numX 2 1 []).h.op, .string (numX 2 1 []).h.nm, .string (numX 2 1 []).h.tb, .int .i64 (numX 2 1 []).h.vk, .int .i64 (numX 2 1 []).h.vn, .string (numX 2 1 []).h.vs, .slice none (numX 2 1 []).h.un.length 0, .int .i64 (numX 2 1 []).h.pa, .int .i64 (numX 2 1 []).h.wk, .int .i64 (numX 2 1 []).h.ws, .slice none 0 0, .int .i64 nulX.h.k, .string nulX.h.op, .string nulX.h.nm, .string nulX.h.tb, .int .i64 nulX.h.vk, .int .i64 nulX.h.vn, .string nulX.h.vs, .slice none nulX.h.un.length 0, .int .i64 nulX.h.pa, .int .i64 nulX.h.wk, .int .i64 nulX.h.ws, .slice (some ⟨W6.heap.size, 0, none⟩) 1 1] 29)
              replace XE := Lib.hid (XE.out.keeps bz15)
              replace XB := Lib.hid (XB.out.keeps bz15)
              replace N12 := Lib.hid (N12.out.keeps bz15)
              have XS := Lib.hid (Blk.new y14 29 #[.int .i64 (binX ⟨#[60]⟩ (feaX ⟨#[116, 111, 116, 97, 108]⟩) (numX 3 1000000 (eurU 1))).h.k, .string (binX ⟨#[60]⟩ (feaX ⟨#[116, 111, 116, 97, 108]⟩) (numX 3 1000000 (eurU 1))).h.op, .string (binX ⟨#[60]⟩ (feaX ⟨#[116, 111, 116, 97, 108]⟩) (numX 3 1000000 (eurU 1))).h.nm, .string (binX ⟨#[60]⟩ (feaX ⟨#[116, 111, 116, 97, 108]⟩) (numX 3 1000000 (eurU 1))).h.tb, .int .i64 (binX ⟨#[60]⟩ (feaX ⟨#[116, 111, 116, 97, 108]⟩) (numX 3 1000000 (eurU 1))).h.vk, .int .i64 (binX ⟨#[60]⟩ (feaX ⟨#[116, 111, 116, 97, 108]⟩) (numX 3 1000000 (eurU 1))).h.vn, .string (binX ⟨#[60]⟩ (feaX ⟨#[116, 111, 116, 97, 108]⟩) (numX 3 1000000 (eurU 1))).h.vs, .slice none (binX ⟨#[60]⟩ (feaX ⟨#[116, 111, 116, 97, 108]⟩) (numX 3 1000000 (eurU 1))).h.un.length 0, .int .i64 (binX ⟨#[60]⟩ (feaX ⟨#[116, 111, 116, 97, 108]⟩) (numX 3 1000000 (eurU 1))).h.pa, .int .i64 (binX ⟨#[60]⟩ (feaX ⟨#[116, 111, 116, 97, 108]⟩) (numX 3 1000000 (eurU 1))).h.wk, .int .i64 (binX ⟨#[60]⟩ (feaX ⟨#[116, 111, 116, 97, 108]⟩) (numX 3 1000000 (eurU 1))).h.ws, .slice (some ⟨gB, 0, none⟩) 2 2, .int .i64 (numX 2 1 []).h.k, .string (numX 2 1 []).h.op, .string (numX 2 1 []).h.nm, .string (numX 2 1 []).h.tb, .int .i64 (numX 2 1 []).h.vk, .int .i64 (numX 2 1 []).h.vn, .string (numX 2 1 []).h.vs, .slice none (numX 2 1 []).h.un.length 0, .int .i64 (numX 2 1 []).h.pa, .int .i64 (numX 2 1 []).h.wk, .int .i64 (numX 2 1 []).h.ws, .slice none 0 0, .int .i64 nulX.h.k, .string nulX.h.op, .string nulX.h.nm, .string nulX.h.tb, .int .i64 nulX.h.vk, .int .i64 nulX.h.vn, .string nulX.h.vs, .slice none nulX.h.un.length 0, .int .i64 nulX.h.pa, .int .i64 nulX.h.wk, .int .i64 nulX.h.ws, .slice (some ⟨W6.heap.size, 0, none⟩) 1 1])
              have eXS := Lib.hid (show y14.heap.size ≠ g12 from by have h1 := lt12.out; have h2 := Nat.le_refl y14.heap.size; omega)
              replace lt12 := Lib.hid (Nat.lt_of_lt_of_le lt12.out bz15.size)
              clear bz15
              have hb15 := balloc hH (.cells #[.int .i64 (binX ⟨#[60]⟩ (feaX ⟨#[116, 111, 116, 97, 108]⟩) (numX 3 1000000 (eurU 1))).h.k, .string (binX ⟨#[60]⟩ (feaX ⟨#[116, 111, 116, 97, 108]⟩) (numX 3 1000000 (eurU 1))).h.op, .string (binX ⟨#[60]⟩ (feaX ⟨#[116, 111, 116, 97, 108]⟩) (numX 3 1000000 (eurU 1))).h.nm, .string (binX ⟨#[60]⟩ (feaX ⟨#[116, 111, 116, 97, 108]⟩) (numX 3 1000000 (eurU 1))).h.tb, .int .i64 (binX ⟨#[60]⟩ (feaX ⟨#[116, 111, 116, 97, 108]⟩) (numX 3 1000000 (eurU 1))).h.vk, .int .i64 (binX ⟨#[60]⟩ (feaX ⟨#[116, 111, 116, 97, 108]⟩) (numX 3 1000000 (eurU 1))).h.vn, .string (binX ⟨#[60]⟩ (feaX ⟨#[116, 111, 116, 97, 108]⟩) (numX 3 1000000 (eurU 1))).h.vs, .slice none (binX ⟨#[60]⟩ (feaX ⟨#[116, 111, 116, 97, 108]⟩) (numX 3 1000000 (eurU 1))).h.un.length 0, .int .i64 (binX ⟨#[60]⟩ (feaX ⟨#[116, 111, 116, 97, 108]⟩) (numX 3 1000000 (eurU 1))).h.pa, .int .i64 (binX ⟨#[60]⟩ (feaX ⟨#[116, 111, 116, 97, 108]⟩) (numX 3 1000000 (eurU 1))).h.wk, .int .i64 (binX ⟨#[60]⟩ (feaX ⟨#[116, 111, 116, 97, 108]⟩) (numX 3 1000000 (eurU 1))).h.ws, .slice (some ⟨gB, 0, none⟩) 2 2, .int .i64 (numX 2 1 []).h.k, .string (numX 2 1 []).h.op, .string (numX 2 1 []).h.nm, .string (numX 2 1 []).h.tb, .int .i64 (numX 2 1 []).h.vk, .int .i64 (numX 2 1 []).h.vn, .string (numX 2 1 []).h.vs, .slice none (numX 2 1 []).h.un.length 0, .int .i64 (numX 2 1 []).h.pa, .int .i64 (numX 2 1 []).h.wk, .int .i64 (numX 2 1 []).h.ws, .slice none 0 0, .int .i64 nulX.h.k, .string nulX.h.op, .string nulX.h.nm, .string nulX.h.tb, .int .i64 nulX.h.vk, .int .i64 nulX.h.vn, .string nulX.h.vs, .slice none nulX.h.un.length 0, .int .i64 nulX.h.pa, .int .i64 nulX.h.wk, .int .i64 nulX.h.ws, .slice (some ⟨W6.heap.size, 0, none⟩) 1 1] 29)
              obtain ⟨y15, hz15⟩ : ∃ W, W = y14.alloc (.cells #[.int .i64 (binX ⟨#[60]⟩ (feaX ⟨#[116, 111, 116, 97, 108]⟩) (numX 3 1000000 (eurU 1))).h.k, .string (binX ⟨#[60]⟩ (feaX ⟨#[116, 111, 116, 97, 108]⟩) (numX 3 1000000 (eurU 1))).h.op, .string (binX ⟨#[60]⟩ (feaX ⟨#[116, 111, 116, 97, 108]⟩) (numX 3 1000000 (eurU 1))).h.nm, .string (binX ⟨#[60]⟩ (feaX ⟨#[116, 111, 116, 97, 108]⟩) (numX 3 1000000 (eurU 1))).h.tb, .int .i64 (binX ⟨#[60]⟩ (feaX ⟨#[116, 111, 116, 97, 108]⟩) (numX 3 1000000 (eurU 1))).h.vk, .int .i64 (binX ⟨#[60]⟩ (feaX ⟨#[116, 111, 116, 97, 108]⟩) (numX 3 1000000 (eurU 1))).h.vn, .string (binX ⟨#[60]⟩ (feaX ⟨#[116, 111, 116, 97, 108]⟩) (numX 3 1000000 (eurU 1))).h.vs, .slice none (binX ⟨#[60]⟩ (feaX ⟨#[116, 111, 116, 97, 108]⟩) (numX 3 1000000 (eurU 1))).h.un.length 0, .int .i64 (binX ⟨#[60]⟩ (feaX ⟨#[116, 111, 116, 97, 108]⟩) (numX 3 1000000 (eurU 1))).h.pa, .int .i64 (binX ⟨#[60]⟩ (feaX ⟨#[116, 111, 116, 97, 108]⟩) (numX 3 1000000 (eurU 1))).h.wk, .int .i64 (binX ⟨#[60]⟩ (feaX ⟨#[116, 111, 116, 97, 108]⟩) (numX 3 1000000 (eurU 1))).h.ws, .slice (some ⟨gB, 0, none⟩) 2 2, .int .i64 (numX 2 1 []).h.k, .string (numX 2 1 []).h.op, .string (numX 2 1 []).h.nm, .string (numX 2 1 []).h.tb, .int .i64 (numX 2 1 []).h.vk, .int .i64 (numX 2 1 []).h.vn, .string (numX 2 1 []).h.vs, .slice none (numX 2 1 []).h.un.length 0, .int .i64 (numX 2 1 []).h.pa, .int .i64 (numX 2 1 []).h.wk, .int .i64 (numX 2 1 []).h.ws, .slice none 0 0, .int .i64 nulX.h.k, .string nulX.h.op, .string nulX.h.nm, .string nulX.h.tb, .int .i64 nulX.h.vk, .int .i64 nulX.h.vn, .string nulX.h.vs, .slice none nulX.h.un.length 0, .int .i64 nulX.h.pa, .int .i64 nulX.h.wk, .int .i64 nulX.h.ws, .slice (some ⟨W6.heap.size, 0, none⟩) 1 1] 29) := ⟨_, rfl⟩
              rw [← hz15] at hb15 XE XB XS N12 lt12
              refine at_world y15 hz15 ?_
              refine hK.out _ _ hb15 (fun hH => ?_)
              clear hK K hz15 hb15
              generalize y14.heap.size = gS at *
              refine held_take (i := 7) (d := 54) (v := ?_) rfl (by kernel_rfl) (by kernel_rfl) (by kernel_rfl) rfl (fun _ _ _ h => h) rfl hH (fun w' hS => ?_) ?_
              rotate_left
              · go_simp; first | done | with_reducible rfl
              simp only [List.set_cons_zero, List.set_cons_succ]
              refine held_only (i := 9) rfl (by kernel_rfl) rfl (fun K hK => ?_)
              refine op_storeT infX (.tmp 6) (.tmp 54) rfl g12 _ (exC choX.h 3 none 0 (some ⟨gS, 0, none⟩) 3) _ rfl rfl N12.out rfl rfl (by simp [exC, Value.oneCell']) ?_
              intro y9 L9 hs9
              refine hK.out _ _ (hH.trans (hs9.below lb.out)) (fun hH => ?_)
              clear hK K
              have x1 := XE.out.st hs9 eXE.out
              have x2 := XB.out.st hs9 eXB.out
              have x3 := XS.out.st hs9 eXS.out
              refine wpAnyH_done (by kernel_rfl) ?_ _
              go_wp2_with fail
              go_meet
              case rel => exact ⟨g12, _, rfl, Lib.hid ⟨rfl, L9⟩, Lib.hid ⟨none, 0, some ⟨gS, 0, none⟩, 3, rfl, .nil _, fs_three (x := lesX) (y := numX 2 1 []) (z := nulX) ⟨.nil _, fs_two (x := feaX ⟨#[116, 111, 116, 97, 108]⟩) (y := numX 3 1000000 (eurU 1)) (EE.out _) ⟨sl_one x1, Fs.nil _⟩ x2 rfl⟩ ⟨.nil _, Fs.nil _⟩ (HN.out.keeps hH) x3 (by kernel_rfl)⟩, Lib.hid hH⟩
          · go_simp
            have lb := Lib.hid hH.size
            have eXE := Lib.hid (Nat.ne_of_lt XE.out.lt)
            refine hK.out _ _ (balloc hH _) (fun hH => ?_)
            clear hK K
            have N16 := Lib.hid (Blk.new y1 29 #[.int .i64 0, .string ⟨#[]⟩, .string ⟨#[]⟩, .string ⟨#[]⟩, .int .i64 0, .int .i64 0, .string ⟨#[]⟩, .slice none 0 0, .int .i64 0, .int .i64 0, .int .i64 0, .slice none 0 0])
            have lt16 := Lib.hid (show y1.heap.size < (y1.alloc (.cells #[.int .i64 0, .string ⟨#[]⟩, .string ⟨#[]⟩, .string ⟨#[]⟩, .int .i64 0, .int .i64 0, .string ⟨#[]⟩, .slice none 0 0, .int .i64 0, .int .i64 0, .int .i64 0, .slice none 0 0] 29)).heap.size from by rw [sz_al]; omega)
            have bz16 := balloc (b0 y1) (.cells #[.int .i64 0, .string ⟨#[]⟩, .string ⟨#[]⟩, .string ⟨#[]⟩, .int .i64 0, .int .i64 0, .string ⟨#[]⟩, .slice none 0 0, .int .i64 0, .int .i64 0, .int .i64 0, .slice none 0 0] 29)
            replace XE := Lib.hid (XE.out.keeps bz16)
            clear bz16
            generalize hz : (y1.alloc (.cells #[.int .i64 0, .string ⟨#[]⟩, .string ⟨#[]⟩, .string ⟨#[]⟩, .int .i64 0, .int .i64 0, .string ⟨#[]⟩, .slice none 0 0, .int .i64 0, .int .i64 0, .int .i64 0, .slice none 0 0] 29)) = y16 at *
            clear hz
            generalize y1.heap.size = g16 at *
            refine held_only (i := 2) rfl (by kernel_rfl) rfl (fun K hK => ?_)
            go_simp
            refine (C2.out gE _).mono ?_
            rintro e y17 ⟨rfl, b17⟩
            refine hK.out _ _ (bnext hH b17) (fun hH => ?_)
            clear hK K
            replace XE := Lib.hid (XE.out.keeps b17)
            replace N16 := Lib.hid (N16.out.keeps b17)
            replace lt16 := Lib.hid (Nat.lt_of_lt_of_le lt16.out b17.size)
            clear b17
            refine held_only (i := 3) rfl (by kernel_rfl) rfl (fun K hK => ?_)
            go_simp
            refine (C3.out gE _).mono ?_
            rintro e y18 ⟨gB, rfl, xB, hB1, b18⟩
            refine hK.out _ _ (bnext hH b18) (fun hH => ?_)
            clear hK K
            replace XE := Lib.hid (XE.out.keeps b18)
            replace N16 := Lib.hid (N16.out.keeps b18)
            have XB := Lib.hid xB
            have eXB := Lib.hid (show gB ≠ g16 from by have h1 := lt16.out; have h2 := hB1; omega)
            replace lt16 := Lib.hid (Nat.lt_of_lt_of_le lt16.out b18.size)
            clear b18 xB hB1
            refine held_only (i := 4) rfl (by kernel_rfl) rfl (fun K hK => ?_)
            go_simp
            refine (C4.out _).mono ?_
            rintro e y19 ⟨rfl, b19⟩
            refine hK.out _ _ (bnext hH b19) (fun hH => ?_)
            clear hK K
            replace XE := Lib.hid (XE.out.keeps b19)
            replace XB := Lib.hid (XB.out.keeps b19)
            replace N16 := Lib.hid (N16.out.keeps b19)
            replace lt16 := Lib.hid (Nat.lt_of_lt_of_le lt16.out b19.size)
            clear b19
            refine held_only (i := 6) rfl (by kernel_rfl) rfl (fun K hK => ?_)
            unfold exC
            go_simp
            have bz20 := balloc (b0 y19) (.cells #[.int .i64 (binX ⟨#[60]⟩ (feaX ⟨#[116, 111, 116, 97, 108]⟩) (numX 3 1000000 (eurU 1))).h.k, .string (binX ⟨#[60]⟩ (feaX ⟨#[116, 111, 116, 97, 108]⟩) (numX 3 1000000 (eurU 1))).h.op, .string (binX ⟨#[60]⟩ (feaX ⟨#[116, 111, 116, 97, 108]⟩) (numX 3 1000000 (eurU 1))).h.nm, .string (binX ⟨#[60]⟩ (feaX ⟨#[116, 111, 116, 97, 108]⟩) (numX 3 1000000 (eurU 1))).h.tb, .int .i64 (binX ⟨#[60]⟩ (feaX ⟨#[116, 111, 116, 97, 108]⟩) (numX 3 1000000 (eurU 1))).h.vk, .int .i64 (binX ⟨#[60]⟩ (feaX ⟨#[116, 111, 116, 97, 108]⟩) (numX 3 1000000 (eurU 1))).h.vn, .string (binX ⟨#[60]⟩ (feaX ⟨#[116, 111, 116, 97, 108]⟩) (numX 3 1000000 (eurU 1))).h.vs, .slice none (binX ⟨#[60]⟩ (feaX ⟨#[116, 111, 116, 97, 108]⟩) (numX 3 1000000 (eurU 1))).h.un.length 0, .int .i64 (binX ⟨#[60]⟩ (feaX ⟨#[116, 111, 116, 97, 108]⟩) (numX 3 1000000 (eurU 1))).h.pa, .int .i64 (binX ⟨#[60]⟩ (feaX ⟨#[116, 111, 116, 97, 108]⟩) (numX 3 1000000 (eurU 1))).h.wk, .int .i64 (binX ⟨#[60]⟩ (feaX ⟨#[116, 111, 116, 97, 108]⟩) (numX 3 1000000 (eurU 1))).h.ws, .slice (some ⟨gB, 0, none⟩) 2 2, .int .i64 (numX 2 1 []).h.k, .string (numX 2 1 []).h.op, .string (numX 2 1 []).h.nm, .string (numX 2 1 []).h.tb, .int .i64 (numX 2 1 []).h.vk, .int .i64 (numX 2 1 []).h.vn, .string (numX 2 1 []).h.vs, .slice none (numX 2 1 []).h.un.length 0, .int .i64 (numX 2 1 []).h.pa, .int .i64 (numX 2 1 []).h.wk, .int .i64 (numX 2 1 []).h.ws, .slice none 0 0, .int .i64 nulX.h.k, .string nulX.h.op, .string nulX.h.nm, .string nulX.h.tb, .int .i64 nulX.h.vk, .int .i64 nulX.h.vn, .string nulX.h.vs, .slice none nulX.h.un.length 0, .int .i64 nulX.h.pa, .int .i64 nulX.h.wk, .int .i64 nulX.h.ws, .slice (some ⟨W6.heap.size, 0, none⟩) 1 1] 29)
            replace XE := Lib.hid (XE.out.keeps bz20)
            replace XB := Lib.hid (XB.out.keeps bz20)
            replace N16 := Lib.hid (N16.out.keeps bz20)
            have XS := Lib.hid (Blk.new y19 29 #[.int .i64 (binX ⟨#[60]⟩ (feaX ⟨#[116, 111, 116, 97, 108]⟩) (numX 3 1000000 (eurU 1))).h.k, .string (binX ⟨#[60]⟩ (feaX ⟨#[116, 111, 116, 97, 108]⟩) (numX 3 1000000 (eurU 1))).h.op, .string (binX ⟨#[60]⟩ (feaX ⟨#[116, 111, 116, 97, 108]⟩) (numX 3 1000000 (eurU 1))).h.nm, .string (binX ⟨#[60]⟩ (feaX ⟨#[116, 111, 116, 97, 108]⟩) (numX 3 1000000 (eurU 1))).h.tb, .int .i64 (binX ⟨#[60]⟩ (feaX ⟨#[116, 111, 116, 97, 108]⟩) (numX 3 1000000 (eurU 1))).h.vk, .int .i64 (binX ⟨#[60]⟩ (feaX ⟨#[116, 111, 116, 97, 108]⟩) (numX 3 1000000 (eurU 1))).h.vn, .string (binX ⟨#[60]⟩ (feaX ⟨#[116, 111, 116, 97, 108]⟩) (numX 3 1000000 (eurU 1))).h.vs, .slice none (binX ⟨#[60]⟩ (feaX ⟨#[116, 111, 116, 97, 108]⟩) (numX 3 1000000 (eurU 1))).h.un.length 0, .int .i64 (binX ⟨#[60]⟩ (feaX ⟨#[116, 111, 116, 97, 108]⟩) (numX 3 1000000 (eurU 1))).h.pa, .int .i64 (binX ⟨#[60]⟩ (feaX ⟨#[116, 111, 116, 97, 108]⟩) (numX 3 1000000 (eurU 1))).h.wk, .int .i64 (binX ⟨#[60]⟩ (feaX ⟨#[116, 111, 116, 97, 108]⟩) (numX 3 1000000 (eurU 1))).h.ws, .slice (some ⟨gB, 0, none⟩) 2 2, .int .i64 (numX 2 1 []).h.k, .string (numX 2 1 []).h.op, .string (numX 2 1 []).h.nm, .string (numX 2 1 []).h.tb, .int .i64 (numX 2 1 []).h.vk, .int .i64 (numX 2 1 []).h.vn, .string (numX 2 1 []).h.vs, .slice none (numX 2 1 []).h.un.length 0, .int .i64 (numX 2 1 []).h.pa, .int .i64 (numX 2 1 []).h.wk, .int .i64 (numX 2 1 []).h.ws, .slice none 0 0, .int .i64 nulX.h.k, .string nulX.h.op, .string nulX.h.nm, .string nulX.h.tb, .int .i64 nulX.h.vk, .int .i64 nulX.h.vn, .string nulX.h.vs, .slice none nulX.h.un.length 0, .int .i64 nulX.h.pa, .int .i64 nulX.h.wk, .int .i64 nulX.h.ws, .slice (some ⟨W6.heap.size, 0, none⟩) 1 1])
            have eXS := Lib.hid (show y19.heap.size ≠ g16 from by have h1 := lt16.out; have h2 := Nat.le_refl y19.heap.size; omega)
            replace lt16 := Lib.hid (Nat.lt_of_lt_of_le lt16.out bz20.size)
            clear bz20
            have hb20 := balloc hH (.cells #[.int .i64 (binX ⟨#[60]⟩ (feaX ⟨#[116, 111, 116, 97, 108]⟩) (numX 3 1000000 (eurU 1))).h.k, .string (binX ⟨#[60]⟩ (feaX ⟨#[116, 111, 116, 97, 108]⟩) (numX 3 1000000 (eurU 1))).h.op, .string (binX ⟨#[60]⟩ (feaX ⟨#[116, 111, 116, 97, 108]⟩) (numX 3 1000000 (eurU 1))).h.nm, .string (binX ⟨#[60]⟩ (feaX ⟨#[116, 111, 116, 97, 108]⟩) (numX 3 1000000 (eurU 1))).h.tb, .int .i64 (binX ⟨#[60]⟩ (feaX ⟨#[116, 111, 116, 97, 108]⟩) (numX 3 1000000 (eurU 1))).h.vk, .int .i64 (binX ⟨#[60]⟩ (feaX ⟨#[116, 111, 116, 97, 108]⟩) (numX 3 1000000 (eurU 1))).h.vn, .string (binX ⟨#[60]⟩ (feaX ⟨#[116, 111, 116, 97, 108]⟩) (numX 3 1000000 (eurU 1))).h.vs, .slice none (binX ⟨#[60]⟩ (feaX ⟨#[116, 111, 116, 97, 108]⟩) (numX 3 1000000 (eurU 1))).h.un.length 0, .int .i64 (binX ⟨#[60]⟩ (feaX ⟨#[116, 111, 116, 97, 108]⟩) (numX 3 1000000 (eurU 1))).h.pa, .int .i64 (binX ⟨#[60]⟩ (feaX ⟨#[116, 111, 116, 97, 108]⟩) (numX 3 1000000 (eurU 1))).h.wk, .int .i64 (binX ⟨#[60]⟩ (feaX ⟨#[116, 111, 116, 97, 108]⟩) (numX 3 1000000 (eurU 1))).h.ws, .slice (some ⟨gB, 0, none⟩) 2 2, .int .i64 (numX 2 1 []).h.k, .string (numX 2 1 []).h.op, .string (numX 2 1 []).h.nm, .string (numX 2 1 []).h.tb, .int .i64 (numX 2 1 []).h.vk, .int .i64 (numX 2 1 []).h.vn, .string (numX 2 1 []).h.vs, .slice none (numX 2 1 []).h.un.length 0, .int .i64 (numX 2 1 []).h.pa, .int .i64 (numX 2 1 []).h.wk, .int .i64 (numX 2 1 []).h.ws, .slice none 0 0, .int .i64 nulX.h.k, .string nulX.h.op, .string nulX.h.nm, .string nulX.h.tb, .int .i64 nulX.h.vk, .int .i64 nulX.h.vn, .string nulX.h.vs, .slice none nulX.h.un.length 0, .int .i64 nulX.h.pa, .int .i64 nulX.h.wk, .int .i64 nulX.h.ws, .slice (some ⟨W6.heap.size, 0, none⟩) 1 1] 29)
            obtain ⟨y20, hz20⟩ : ∃ W, W = y19.alloc (.cells #[.int .i64 (binX ⟨#[60]⟩ (feaX ⟨#[116, 111, 116, 97, 108]⟩) (numX 3 1000000 (eurU 1))).h.k, .string (binX ⟨#[60]⟩ (feaX ⟨#[116, 111, 116, 97, 108]⟩) (numX 3 1000000 (eurU 1))).h.op, .string (binX ⟨#[60]⟩ (feaX ⟨#[116, 111, 116, 97, 108]⟩) (numX 3 1000000 (eurU 1))).h.nm, .string (binX ⟨#[60]⟩ (feaX ⟨#[116, 111, 116, 97, 108]⟩) (numX 3 1000000 (eurU 1))).h.tb, .int .i64 (binX ⟨#[60]⟩ (feaX ⟨#[116, 111, 116, 97, 108]⟩) (numX 3 1000000 (eurU 1))).h.vk, .int .i64 (binX ⟨#[60]⟩ (feaX ⟨#[116, 111, 116, 97, 108]⟩) (numX 3 1000000 (eurU 1))).h.vn, .string (binX ⟨#[60]⟩ (feaX ⟨#[116, 111, 116, 97, 108]⟩) (numX 3 1000000 (eurU 1))).h.vs, .slice none (binX ⟨#[60]⟩ (feaX ⟨#[116, 111, 116, 97, 108]⟩) (numX 3 1000000 (eurU 1))).h.un.length 0, .int .i64 (binX ⟨#[60]⟩ (feaX ⟨#[116, 111, 116, 97, 108]⟩) (numX 3 1000000 (eurU 1))).h.pa, .int .i64 (binX ⟨#[60]⟩ (feaX ⟨#[116, 111, 116, 97, 108]⟩) (numX 3 1000000 (eurU 1))).h.wk, .int .i64 (binX ⟨#[60]⟩ (feaX ⟨#[116, 111, 116, 97, 108]⟩) (numX 3 1000000 (eurU 1))).h.ws, .slice (some ⟨gB, 0, none⟩) 2 2, .int .i64 (numX 2 1 []).h.k, .string (numX 2 1 []).h.op, .string (numX 2 1 []).h.nm, .string (numX 2 1 []).h.tb, .int .i64 (numX 2 1 []).h.vk, .int .i64 (numX 2 1 []).h.vn, .string (numX 2 1 []).h.vs, .slice none (numX 2 1 []).h.un.length 0, .int .i64 (numX 2 1 []).h.pa, .int .i64 (numX 2 1 []).h.wk, .int .i64 (numX 2 1 []).h.ws, .slice none 0 0, .int .i64 nulX.h.k, .string nulX.h.op, .string nulX.h.nm, .string nulX.h.tb, .int .i64 nulX.h.vk, .int .i64 nulX.h.vn, .string nulX.h.vs, .slice none nulX.h.un.length 0, .int .i64 nulX.h.pa, .int .i64 nulX.h.wk, .int .i64 nulX.h.ws, .slice (some ⟨W6.heap.size, 0, none⟩) 1 1] 29) := ⟨_, rfl⟩
            rw [← hz20] at hb20 XE XB XS N16 lt16
            refine at_world y20 hz20 ?_
            refine hK.out _ _ hb20 (fun hH => ?_)
            clear hK K hz20 hb20
            generalize y19.heap.size = gS at *
            refine held_take (i := 7) (d := 54) (v := ?_) rfl (by kernel_rfl) (by kernel_rfl) (by kernel_rfl) rfl (fun _ _ _ h => h) rfl hH (fun w' hS => ?_) ?_
            rotate_left
            · go_simp; first | done | with_reducible rfl
            simp only [List.set_cons_zero, List.set_cons_succ]
            refine held_only (i := 9) rfl (by kernel_rfl) rfl (fun K hK => ?_)
            refine op_storeT infX (.tmp 6) (.tmp 54) rfl g16 _ (exC choX.h 3 none 0 (some ⟨gS, 0, none⟩) 3) _ rfl rfl N16.out rfl rfl (by simp [exC, Value.oneCell']) ?_
            intro y9 L9 hs9
            refine hK.out _ _ (hH.trans (hs9.below lb.out)) (fun hH => ?_)
            clear hK K
            have x1 := XE.out.st hs9 eXE.out
            have x2 := XB.out.st hs9 eXB.out
            have x3 := XS.out.st hs9 eXS.out
            refine wpAnyH_done (by kernel_rfl) ?_ _
            go_wp2_with fail
            go_meet
            case rel => exact ⟨g16, _, rfl, Lib.hid ⟨rfl, L9⟩, Lib.hid ⟨none, 0, some ⟨gS, 0, none⟩, 3, rfl, .nil _, fs_three (x := lesX) (y := numX 2 1 []) (z := nulX) ⟨.nil _, fs_two (x := feaX ⟨#[116, 111, 116, 97, 108]⟩) (y := numX 3 1000000 (eurU 1)) (EE.out _) ⟨sl_one x1, Fs.nil _⟩ x2 rfl⟩ ⟨.nil _, Fs.nil _⟩ (HN.out.keeps hH) x3 (by kernel_rfl)⟩, Lib.hid hH⟩
        · go_simp
          have lb := Lib.hid hH.size
          refine hK.out _ _ (balloc hH _) (fun hH => ?_)
          clear hK K
          have N21 := Lib.hid (Blk.new y0 29 #[.int .i64 0, .string ⟨#[]⟩, .string ⟨#[]⟩, .string ⟨#[]⟩, .int .i64 0, .int .i64 0, .string ⟨#[]⟩, .slice none 0 0, .int .i64 0, .int .i64 0, .int .i64 0, .slice none 0 0])
          have lt21 := Lib.hid (show y0.heap.size < (y0.alloc (.cells #[.int .i64 0, .string ⟨#[]⟩, .string ⟨#[]⟩, .string ⟨#[]⟩, .int .i64 0, .int .i64 0, .string ⟨#[]⟩, .slice none 0 0, .int .i64 0, .int .i64 0, .int .i64 0, .slice none 0 0] 29)).heap.size from by rw [sz_al]; omega)
          have bz21 := balloc (b0 y0) (.cells #[.int .i64 0, .string ⟨#[]⟩, .string ⟨#[]⟩, .string ⟨#[]⟩, .int .i64 0, .int .i64 0, .string ⟨#[]⟩, .slice none 0 0, .int .i64 0, .int .i64 0, .int .i64 0, .slice none 0 0] 29)
          clear bz21
          generalize hz : (y0.alloc (.cells #[.int .i64 0, .string ⟨#[]⟩, .string ⟨#[]⟩, .string ⟨#[]⟩, .int .i64 0, .int .i64 0, .string ⟨#[]⟩, .slice none 0 0, .int .i64 0, .int .i64 0, .int .i64 0, .slice none 0 0] 29)) = y21 at *
          clear hz
          generalize y0.heap.size = g21 at *
          refine held_only (i := 1) rfl (by kernel_rfl) rfl (fun K hK => ?_)
          go_simp
          refine (C1.out _).mono ?_
          rintro e y22 ⟨gE, rfl, xE, hE1, b22⟩
          refine hK.out _ _ (bnext hH b22) (fun hH => ?_)
          clear hK K
          replace N21 := Lib.hid (N21.out.keeps b22)
          have XE := Lib.hid xE
          have eXE := Lib.hid (show gE ≠ g21 from by have h1 := lt21.out; have h2 := hE1; omega)
          replace lt21 := Lib.hid (Nat.lt_of_lt_of_le lt21.out b22.size)
          clear b22 xE hE1
          refine held_only (i := 2) rfl (by kernel_rfl) rfl (fun K hK => ?_)
          go_simp
          refine (C2.out gE _).mono ?_
          rintro e y23 ⟨rfl, b23⟩
          refine hK.out _ _ (bnext hH b23) (fun hH => ?_)
          clear hK K
          replace XE := Lib.hid (XE.out.keeps b23)
          replace N21 := Lib.hid (N21.out.keeps b23)
          replace lt21 := Lib.hid (Nat.lt_of_lt_of_le lt21.out b23.size)
          clear b23
          refine held_only (i := 3) rfl (by kernel_rfl) rfl (fun K hK => ?_)
          go_simp
          refine (C3.out gE _).mono ?_
          rintro e y24 ⟨gB, rfl, xB, hB1, b24⟩
          refine hK.out _ _ (bnext hH b24) (fun hH => ?_)
          clear hK K
          replace XE := Lib.hid (XE.out.keeps b24)
          replace N21 := Lib.hid (N21.out.keeps b24)
          have XB := Lib.hid xB
          have eXB := Lib.hid (show gB ≠ g21 from by have h1 := lt21.out; have h2 := hB1; omega)
          replace lt21 := Lib.hid (Nat.lt_of_lt_of_le lt21.out b24.size)
          clear b24 xB hB1
          refine held_only (i := 4) rfl (by kernel_rfl) rfl (fun K hK => ?_)
          go_simp
          refine (C4.out _).mono ?_
          rintro e y25 ⟨rfl, b25⟩
          refine hK.out _ _ (bnext hH b25) (fun hH => ?_)
          clear hK K
          replace XE := Lib.hid (XE.out.keeps b25)
          replace XB := Lib.hid (XB.out.keeps b25)
          replace N21 := Lib.hid (N21.out.keeps b25)
          replace lt21 := Lib.hid (Nat.lt_of_lt_of_le lt21.out b25.size)
          clear b25
          refine held_only (i := 6) rfl (by kernel_rfl) rfl (fun K hK => ?_)
          unfold exC
          go_simp
          have bz26 := balloc (b0 y25) (.cells #[.int .i64 (binX ⟨#[60]⟩ (feaX ⟨#[116, 111, 116, 97, 108]⟩) (numX 3 1000000 (eurU 1))).h.k, .string (binX ⟨#[60]⟩ (feaX ⟨#[116, 111, 116, 97, 108]⟩) (numX 3 1000000 (eurU 1))).h.op, .string (binX ⟨#[60]⟩ (feaX ⟨#[116, 111, 116, 97, 108]⟩) (numX 3 1000000 (eurU 1))).h.nm, .string (binX ⟨#[60]⟩ (feaX ⟨#[116, 111, 116, 97, 108]⟩) (numX 3 1000000 (eurU 1))).h.tb, .int .i64 (binX ⟨#[60]⟩ (feaX ⟨#[116, 111, 116, 97, 108]⟩) (numX 3 1000000 (eurU 1))).h.vk, .int .i64 (binX ⟨#[60]⟩ (feaX ⟨#[116, 111, 116, 97, 108]⟩) (numX 3 1000000 (eurU 1))).h.vn, .string (binX ⟨#[60]⟩ (feaX ⟨#[116, 111, 116, 97, 108]⟩) (numX 3 1000000 (eurU 1))).h.vs, .slice none (binX ⟨#[60]⟩ (feaX ⟨#[116, 111, 116, 97, 108]⟩) (numX 3 1000000 (eurU 1))).h.un.length 0, .int .i64 (binX ⟨#[60]⟩ (feaX ⟨#[116, 111, 116, 97, 108]⟩) (numX 3 1000000 (eurU 1))).h.pa, .int .i64 (binX ⟨#[60]⟩ (feaX ⟨#[116, 111, 116, 97, 108]⟩) (numX 3 1000000 (eurU 1))).h.wk, .int .i64 (binX ⟨#[60]⟩ (feaX ⟨#[116, 111, 116, 97, 108]⟩) (numX 3 1000000 (eurU 1))).h.ws, .slice (some ⟨gB, 0, none⟩) 2 2, .int .i64 (numX 2 1 []).h.k, .string (numX 2 1 []).h.op, .string (numX 2 1 []).h.nm, .string (numX 2 1 []).h.tb, .int .i64 (numX 2 1 []).h.vk, .int .i64 (numX 2 1 []).h.vn, .string (numX 2 1 []).h.vs, .slice none (numX 2 1 []).h.un.length 0, .int .i64 (numX 2 1 []).h.pa, .int .i64 (numX 2 1 []).h.wk, .int .i64 (numX 2 1 []).h.ws, .slice none 0 0, .int .i64 nulX.h.k, .string nulX.h.op, .string nulX.h.nm, .string nulX.h.tb, .int .i64 nulX.h.vk, .int .i64 nulX.h.vn, .string nulX.h.vs, .slice none nulX.h.un.length 0, .int .i64 nulX.h.pa, .int .i64 nulX.h.wk, .int .i64 nulX.h.ws, .slice (some ⟨W6.heap.size, 0, none⟩) 1 1] 29)
          replace XE := Lib.hid (XE.out.keeps bz26)
          replace XB := Lib.hid (XB.out.keeps bz26)
          replace N21 := Lib.hid (N21.out.keeps bz26)
          have XS := Lib.hid (Blk.new y25 29 #[.int .i64 (binX ⟨#[60]⟩ (feaX ⟨#[116, 111, 116, 97, 108]⟩) (numX 3 1000000 (eurU 1))).h.k, .string (binX ⟨#[60]⟩ (feaX ⟨#[116, 111, 116, 97, 108]⟩) (numX 3 1000000 (eurU 1))).h.op, .string (binX ⟨#[60]⟩ (feaX ⟨#[116, 111, 116, 97, 108]⟩) (numX 3 1000000 (eurU 1))).h.nm, .string (binX ⟨#[60]⟩ (feaX ⟨#[116, 111, 116, 97, 108]⟩) (numX 3 1000000 (eurU 1))).h.tb, .int .i64 (binX ⟨#[60]⟩ (feaX ⟨#[116, 111, 116, 97, 108]⟩) (numX 3 1000000 (eurU 1))).h.vk, .int .i64 (binX ⟨#[60]⟩ (feaX ⟨#[116, 111, 116, 97, 108]⟩) (numX 3 1000000 (eurU 1))).h.vn, .string (binX ⟨#[60]⟩ (feaX ⟨#[116, 111, 116, 97, 108]⟩) (numX 3 1000000 (eurU 1))).h.vs, .slice none (binX ⟨#[60]⟩ (feaX ⟨#[116, 111, 116, 97, 108]⟩) (numX 3 1000000 (eurU 1))).h.un.length 0, .int .i64 (binX ⟨#[60]⟩ (feaX ⟨#[116, 111, 116, 97, 108]⟩) (numX 3 1000000 (eurU 1))).h.pa, .int .i64 (binX ⟨#[60]⟩ (feaX ⟨#[116, 111, 116, 97, 108]⟩) (numX 3 1000000 (eurU 1))).h.wk, .int .i64 (binX ⟨#[60]⟩ (feaX ⟨#[116, 111, 116, 97, 108]⟩) (numX 3 1000000 (eurU 1))).h.ws, .slice (some ⟨gB, 0, none⟩) 2 2, .int .i64 (numX 2 1 []).h.k, .string (numX 2 1 []).h.op, .string (numX 2 1 []).h.nm, .string (numX 2 1 []).h.tb, .int .i64 (numX 2 1 []).h.vk, .int .i64 (numX 2 1 []).h.vn, .string (numX 2 1 []).h.vs, .slice none (numX 2 1 []).h.un.length 0, .int .i64 (numX 2 1 []).h.pa, .int .i64 (numX 2 1 []).h.wk, .int .i64 (numX 2 1 []).h.ws, .slice none 0 0, .int .i64 nulX.h.k, .string nulX.h.op, .string nulX.h.nm, .string nulX.h.tb, .int .i64 nulX.h.vk, .int .i64 nulX.h.vn, .string nulX.h.vs, .slice none nulX.h.un.length 0, .int .i64 nulX.h.pa, .int .i64 nulX.h.wk, .int .i64 nulX.h.ws, .slice (some ⟨W6.heap.size, 0, none⟩) 1 1])
          have eXS := Lib.hid (show y25.heap.size ≠ g21 from by have h1 := lt21.out; have h2 := Nat.le_refl y25.heap.size; omega)
          replace lt21 := Lib.hid (Nat.lt_of_lt_of_le lt21.out bz26.size)
          clear bz26
          have hb26 := balloc hH (.cells #[.int .i64 (binX ⟨#[60]⟩ (feaX ⟨#[116, 111, 116, 97, 108]⟩) (numX 3 1000000 (eurU 1))).h.k, .string (binX ⟨#[60]⟩ (feaX ⟨#[116, 111, 116, 97, 108]⟩) (numX 3 1000000 (eurU 1))).h.op, .string (binX ⟨#[60]⟩ (feaX ⟨#[116, 111, 116, 97, 108]⟩) (numX 3 1000000 (eurU 1))).h.nm, .string (binX ⟨#[60]⟩ (feaX ⟨#[116, 111, 116, 97, 108]⟩) (numX 3 1000000 (eurU 1))).h.tb, .int .i64 (binX ⟨#[60]⟩ (feaX ⟨#[116, 111, 116, 97, 108]⟩) (numX 3 1000000 (eurU 1))).h.vk, .int .i64 (binX ⟨#[60]⟩ (feaX ⟨#[116, 111, 116, 97, 108]⟩) (numX 3 1000000 (eurU 1))).h.vn, .string (binX ⟨#[60]⟩ (feaX ⟨#[116, 111, 116, 97, 108]⟩) (numX 3 1000000 (eurU 1))).h.vs, .slice none (binX ⟨#[60]⟩ (feaX ⟨#[116, 111, 116, 97, 108]⟩) (numX 3 1000000 (eurU 1))).h.un.length 0, .int .i64 (binX ⟨#[60]⟩ (feaX ⟨#[116, 111, 116, 97, 108]⟩) (numX 3 1000000 (eurU 1))).h.pa, .int .i64 (binX ⟨#[60]⟩ (feaX ⟨#[116, 111, 116, 97, 108]⟩) (numX 3 1000000 (eurU 1))).h.wk, .int .i64 (binX ⟨#[60]⟩ (feaX ⟨#[116, 111, 116, 97, 108]⟩) (numX 3 1000000 (eurU 1))).h.ws, .slice (some ⟨gB, 0, none⟩) 2 2, .int .i64 (numX 2 1 []).h.k, .string (numX 2 1 []).h.op, .string (numX 2 1 []).h.nm, .string (numX 2 1 []).h.tb, .int .i64 (numX 2 1 []).h.vk, .int .i64 (numX 2 1 []).h.vn, .string (numX 2 1 []).h.vs, .slice none (numX 2 1 []).h.un.length 0, .int .i64 (numX 2 1 []).h.pa, .int .i64 (numX 2 1 []).h.wk, .int .i64 (numX 2 1 []).h.ws, .slice none 0 0, .int .i64 nulX.h.k, .string nulX.h.op, .string nulX.h.nm, .string nulX.h.tb, .int .i64 nulX.h.vk, .int .i64 nulX.h.vn, .string nulX.h.vs, .slice none nulX.h.un.length 0, .int .i64 nulX.h.pa, .int .i64 nulX.h.wk, .int .i64 nulX.h.ws, .slice (some ⟨W6.heap.size, 0, none⟩) 1 1] 29)
          obtain ⟨y26, hz26⟩ : ∃ W, W = y25.alloc (.cells #[.int .i64 (binX ⟨#[60]⟩ (feaX ⟨#[116, 111, 116, 97, 108]⟩) (numX 3 1000000 (eurU 1))).h.k, .string (binX ⟨#[60]⟩ (feaX ⟨#[116, 111, 116, 97, 108]⟩) (numX 3 1000000 (eurU 1))).h.op, .string (binX ⟨#[60]⟩ (feaX ⟨#[116, 111, 116, 97, 108]⟩) (numX 3 1000000 (eurU 1))).h.nm, .string (binX ⟨#[60]⟩ (feaX ⟨#[116, 111, 116, 97, 108]⟩) (numX 3 1000000 (eurU 1))).h.tb, .int .i64 (binX ⟨#[60]⟩ (feaX ⟨#[116, 111, 116, 97, 108]⟩) (numX 3 1000000 (eurU 1))).h.vk, .int .i64 (binX ⟨#[60]⟩ (feaX ⟨#[116, 111, 116, 97, 108]⟩) (numX 3 1000000 (eurU 1))).h.vn, .string (binX ⟨#[60]⟩ (feaX ⟨#[116, 111, 116, 97, 108]⟩) (numX 3 1000000 (eurU 1))).h.vs, .slice none (binX ⟨#[60]⟩ (feaX ⟨#[116, 111, 116, 97, 108]⟩) (numX 3 1000000 (eurU 1))).h.un.length 0, .int .i64 (binX ⟨#[60]⟩ (feaX ⟨#[116, 111, 116, 97, 108]⟩) (numX 3 1000000 (eurU 1))).h.pa, .int .i64 (binX ⟨#[60]⟩ (feaX ⟨#[116, 111, 116, 97, 108]⟩) (numX 3 1000000 (eurU 1))).h.wk, .int .i64 (binX ⟨#[60]⟩ (feaX ⟨#[116, 111, 116, 97, 108]⟩) (numX 3 1000000 (eurU 1))).h.ws, .slice (some ⟨gB, 0, none⟩) 2 2, .int .i64 (numX 2 1 []).h.k, .string (numX 2 1 []).h.op, .string (numX 2 1 []).h.nm, .string (numX 2 1 []).h.tb, .int .i64 (numX 2 1 []).h.vk, .int .i64 (numX 2 1 []).h.vn, .string (numX 2 1 []).h.vs, .slice none (numX 2 1 []).h.un.length 0, .int .i64 (numX 2 1 []).h.pa, .int .i64 (numX 2 1 []).h.wk, .int .i64 (numX 2 1 []).h.ws, .slice none 0 0, .int .i64 nulX.h.k, .string nulX.h.op, .string nulX.h.nm, .string nulX.h.tb, .int .i64 nulX.h.vk, .int .i64 nulX.h.vn, .string nulX.h.vs, .slice none nulX.h.un.length 0, .int .i64 nulX.h.pa, .int .i64 nulX.h.wk, .int .i64 nulX.h.ws, .slice (some ⟨W6.heap.size, 0, none⟩) 1 1] 29) := ⟨_, rfl⟩
          rw [← hz26] at hb26 XE XB XS N21 lt21
          refine at_world y26 hz26 ?_
          refine hK.out _ _ hb26 (fun hH => ?_)
          clear hK K hz26 hb26
          generalize y25.heap.size = gS at *
          refine held_take (i := 7) (d := 54) (v := ?_) rfl (by kernel_rfl) (by kernel_rfl) (by kernel_rfl) rfl (fun _ _ _ h => h) rfl hH (fun w' hS => ?_) ?_
          rotate_left
          · go_simp; first | done | with_reducible rfl
          simp only [List.set_cons_zero, List.set_cons_succ]
          refine held_only (i := 9) rfl (by kernel_rfl) rfl (fun K hK => ?_)
          refine op_storeT infX (.tmp 6) (.tmp 54) rfl g21 _ (exC choX.h 3 none 0 (some ⟨gS, 0, none⟩) 3) _ rfl rfl N21.out rfl rfl (by simp [exC, Value.oneCell']) ?_
          intro y9 L9 hs9
          refine hK.out _ _ (hH.trans (hs9.below lb.out)) (fun hH => ?_)
          clear hK K
          have x1 := XE.out.st hs9 eXE.out
          have x2 := XB.out.st hs9 eXB.out
          have x3 := XS.out.st hs9 eXS.out
          refine wpAnyH_done (by kernel_rfl) ?_ _
          go_wp2_with fail
          go_meet
          case rel => exact ⟨g21, _, rfl, Lib.hid ⟨rfl, L9⟩, Lib.hid ⟨none, 0, some ⟨gS, 0, none⟩, 3, rfl, .nil _, fs_three (x := lesX) (y := numX 2 1 []) (z := nulX) ⟨.nil _, fs_two (x := feaX ⟨#[116, 111, 116, 97, 108]⟩) (y := numX 3 1000000 (eurU 1)) (EE.out _) ⟨sl_one x1, Fs.nil _⟩ x2 rfl⟩ ⟨.nil _, Fs.nil _⟩ (HN.out.keeps hH) x3 (by kernel_rfl)⟩, Lib.hid hH⟩
      case rest =>
        obtain ⟨g6, c6, rfl, G6, X6, BW⟩ := hcut
        generalize wc = w8 at *
        have B8 := Lib.hid (bnext B7.out BW.out)
        replace HT := Lib.hid (HT.out.stays BW.out)
        replace HK := Lib.hid (HK.out.keeps BW.out)
        replace GK := Lib.hid (GK.out.keeps BW.out)
        clear BW B7 C1 C2 C3 C4 HN GN G2 EE EF
        have C8 := Lib.hid (fun (W : World) (hE : ExV W ck lokX) (T : Tabs W) => h_nil lokX 2 0 q8 s8 ck W hE T)
        have C9 := Lib.hid (fun (W : World) (hE : ExV W c6 choX) (T : Tabs W) => h_nil choX 0 5 q9 s9 c6 W hE T)
        have C10 := Lib.hid (fun (W : World) (hE : ExV W c6 choX) => (show Calls Tryz.prog 14 #[.agg c6] W (Num 7 W) from by have h := size_e choX c6 W hE; rw [q10] at h; exact h))
        have C11 := Lib.hid (fun (W : World) (hE : ExV W c6 choX) => (show Calls Tryz.prog 16 #[.agg c6] W (Num 3 W) from by have h := depth_e choX c6 W hE; rw [q11] at h; exact h))
        go_wp2_with (first | (refine arm_loadG infX Tryz.underlying29 rfl (.tmp 4) rfl rfl _ _ _ rfl GK.out zk.out ?_) | (refine arm_loadG infX Tryz.underlying29 rfl (.tmp 6) rfl rfl _ _ _ rfl G6.out.2 G6.out.1 ?_))
        refine (C8.out _ HK.out HT.out).mono ?_
        rintro e w9 ⟨rfl, b9⟩
        have B9 := Lib.hid (bnext B8.out b9)
        replace HT := Lib.hid (HT.out.stays b9)
        replace G6 := Lib.hid (And.intro G6.out.1 (G6.out.2.keeps b9))
        replace X6 := Lib.hid (X6.out.keeps b9)
        clear b9
        go_wp2_with (first | (refine arm_loadG infX Tryz.underlying29 rfl (.tmp 4) rfl rfl _ _ _ rfl GK.out zk.out ?_) | (refine arm_loadG infX Tryz.underlying29 rfl (.tmp 6) rfl rfl _ _ _ rfl G6.out.2 G6.out.1 ?_))
        refine (C9.out _ X6.out HT.out).mono ?_
        rintro e w10 ⟨rfl, b10⟩
        have B10 := Lib.hid (bnext B9.out b10)
        replace G6 := Lib.hid (And.intro G6.out.1 (G6.out.2.keeps b10))
        replace X6 := Lib.hid (X6.out.keeps b10)
        clear b10
        go_wp2_with (first | (refine arm_loadG infX Tryz.underlying29 rfl (.tmp 4) rfl rfl _ _ _ rfl GK.out zk.out ?_) | (refine arm_loadG infX Tryz.underlying29 rfl (.tmp 6) rfl rfl _ _ _ rfl G6.out.2 G6.out.1 ?_))
        refine (C10.out _ X6.out).mono ?_
        rintro e w11 ⟨rfl, b11⟩
        have B11 := Lib.hid (bnext B10.out b11)
        replace G6 := Lib.hid (And.intro G6.out.1 (G6.out.2.keeps b11))
        replace X6 := Lib.hid (X6.out.keeps b11)
        clear b11
        go_wp2_with (first | (refine arm_loadG infX Tryz.underlying29 rfl (.tmp 4) rfl rfl _ _ _ rfl GK.out zk.out ?_) | (refine arm_loadG infX Tryz.underlying29 rfl (.tmp 6) rfl rfl _ _ _ rfl G6.out.2 G6.out.1 ?_))
        refine (C11.out _ X6.out).mono ?_
        rintro e w12 ⟨rfl, b12⟩
        have B12 := Lib.hid (bnext B11.out b12)
        clear b12
        go_wp2_with fail
        go_ret
        exact bl_of rfl B12.out
end Go.Proofs.YtbkpjhffmaldmaaGreatDoor.ch

/-
  CheckerOperands.
-/
import Derived.Test.YtbkpjhffmaldmaaGreatDoorZFcu
import Derived.Test.YtbkpjhffmaldmaaGreatDoorZWun
namespace Go.Proofs.YtbkpjhffmaldmaaGreatDoor.ch
open Go.RowKit dec

theorem fo_lens : ∀ (F : Fo), F.len ≤ F.sz
  | .nil => Nat.le_refl _
  | .cons _ ar r => by
    have := fo_lens r
    simp only [Fo.len, Fo.sz]
    omega
theorem nth_lns : ∀ (F : Fo) (j : Nat), F.lns → (F.nth j).lns
  | .nil, _, _ => ⟨Nat.zero_le _, trivial⟩
  | .cons _ _ _, 0, hs => ⟨hs.1, hs.2.1⟩
  | .cons _ _ r, j + 1, hs => nth_lns r j hs.2.2
set_option maxRecDepth 100000 in
set_option maxHeartbeats 8000000 in
theorem walk_operands (cs : Array Value) (ts : List Tb) (gs : List Fe) (en : ByteArray) (x : Ex) (ua aa : Option Addr) (uc ac : Nat) (w : World) (hC : CtV w cs ts gs) (hcl : CtL ts gs) (hsx : x.szs) (hlx : x.lns) (hX : Ec w x ua uc aa ac) (hz : x.ar.sz ≤ 1048576) (T : Tabs w) :
    Calls Tryz.prog 5 #[.agg cs, .string en, .agg (exC x.h x.ar.len ua uc aa ac)] w (Bl true w) := by
  obtain ⟨ta, tn, tc, ga, gn, gc, da, dn, dc, pa, pn, pc, rfl, hT, hG⟩ := hC
  unfold ctC
  have hC : CtV w #[.slice ta tn tc, .slice ga gn gc, .slice da dn dc, .slice pa pn pc] ts gs := ⟨ta, tn, tc, ga, gn, gc, da, dn, dc, pa, pn, pc, rfl, hT, hG⟩
  have hXV : ExV w (exC x.h x.ar.len ua uc aa ac) x := ⟨ua, uc, aa, ac, rfl, hX⟩
  have CE := Lib.hid (fun (W : World) (b : Below w.heap.size w W) => example_any W (T.stays b))
  have CX := Lib.hid (fun (W : World) (b : Below w.heap.size w W) => infer_v #[.slice ta tn tc, .slice ga gn gc, .slice da dn dc, .slice pa pn pc] ts gs en x (exC x.h x.ar.len ua uc aa ac) W (ct_keeps hC b) hcl hsx hlx (hXV.keeps b) (T.stays b))
  have CY := Lib.hid (fun (j : Nat) (ds : Array Value) (W : World) (b : Below w.heap.size w W) (E : ExV W ds (x.ar.nth j)) => infer_v #[.slice ta tn tc, .slice ga gn gc, .slice da dn dc, .slice pa pn pc] ts gs en (x.ar.nth j) ds W (ct_keeps hC b) hcl (nth_szs _ j hsx.ar) (nth_lns _ j hlx.ar) E (T.stays b))
  have C1 := Lib.hid (fun (y : Ex) (ds : Array Value) (W : World) (E : ExV W ds y) => size_e y ds W E)
  have C2 := Lib.hid (fun (y : Ex) (ds : Array Value) (W : World) (E : ExV W ds y) => depth_e y ds W E)
  have HX := Lib.hid hX
  have hzz : x.ar.sz ≤ 4611686018427387903 := by omega
  have hqd := Lib.hid (size_depth hzz)
  have hqo := Lib.hid (fun (j : Nat) (h : j < x.ar.len) => size_op hzz h)
  have hop := Lib.hid (fun (hk : x.h.k ≠ 5) (h : (inf ts gs en x).1 = 0) (j : Nat) (hj : j < x.ar.len) => inf_op hzz hk h hj)
  have hL := Lib.hid (show x.ar.len ≤ 1048576 from by have := fo_lens x.ar; omega)
  have bb := below_two w (.cells #[.slice ta tn tc, .slice ga gn gc, .slice da dn dc, .slice pa pn pc] 46) (.cells (exC x.h x.ar.len ua uc aa ac) 29)
  have B0 := Lib.hid bb
  have GG := bw_two w #[.slice ta tn tc, .slice ga gn gc, .slice da dn dc, .slice pa pn pc] (exC x.h x.ar.len ua uc aa ac) 46 29
  have V3 := Lib.hid GG.1
  have V5 := Lib.hid GG.2
  clear hC hT hG T hX hXV hcl hsx hlx hzz hz bb GG
  generalize inf ts gs en x = r at *
  go_enter Tryz.func5, Tryz.ntmps5
  go_wp2_with fail
  refine (CE.out _ B0.out).mono ?_
  rintro e w1 ⟨rfl, b1⟩
  have B1 := Lib.hid (bnext B0.out b1)
  replace V3 := Lib.hid (V3.out.keeps b1)
  replace V5 := Lib.hid (V5.out.keeps b1)
  clear b1
  clear CE
  generalize hg5 : w.heap.size + 1 = g5 at V5 ⊢
  generalize hg3 : w.heap.size = g3 at V3 ⊢
  clear hg5 hg3
  go_upto_region 2 with fail
  go_cut [18] from 14 to 18 (fun v wx => v = .bool false ∧ Hid (Below w1.heap.size w1 wx))
  case first =>
    refine wp_region_held_drew (S := fun w' => Below w1.heap.size w1 w') (by kernel_rfl) (b0 w1).drew (fun hH => ?_)
    refine held_take (i := 0) (d := 14) (v := .agg (exC x.h x.ar.len ua uc aa ac)) rfl (by kernel_rfl) (by kernel_rfl) (by kernel_rfl) rfl (fun _ _ _ h => h) rfl hH (fun w' hS => yield_load infX Tryz.underlying29 rfl (.tmp 5) rfl _ _ _ rfl (V5.out.keeps hS) rfl) ?_
    simp only [List.set_cons_zero, List.set_cons_succ]
    refine held_take (i := 2) (d := 16) (v := .agg (exC x.h x.ar.len ua uc aa ac)) rfl (by kernel_rfl) (by kernel_rfl) (by kernel_rfl) rfl (fun _ _ _ h => h) rfl hH (fun w' hS => yield_load infX Tryz.underlying29 rfl (.tmp 5) rfl _ _ _ rfl (V5.out.keeps hS) rfl) ?_
    simp only [List.set_cons_zero, List.set_cons_succ]
    generalize w1.drew = yy at *
    refine held_only (i := 1) rfl (by kernel_rfl) rfl (fun K hK => ?_)
    go_simp
    refine (C1.out x _ _ ⟨ua, uc, aa, ac, rfl, HX.out.keeps (bnext B1.out hH)⟩).mono ?_
    rintro e y21 ⟨rfl, b21⟩
    skip
    refine hK.out _ _ (bnext hH b21) (fun hH => ?_)
    clear hK K
    clear b21
    refine held_only (i := 3) rfl (by kernel_rfl) rfl (fun K hK => ?_)
    go_simp
    refine (C2.out x _ _ ⟨ua, uc, aa, ac, rfl, HX.out.keeps (bnext B1.out hH)⟩).mono ?_
    rintro e y22 ⟨rfl, b22⟩
    skip
    refine hK.out _ _ (bnext hH b22) (fun hH => ?_)
    clear hK K
    clear b22
    have q9 : decide (szE x < dpE x) = false := decide_eq_false (Int.not_lt.mpr hqd.out)
    refine held_take (i := 4) (d := 18) (v := ?_) rfl (by kernel_rfl) (by kernel_rfl) (by kernel_rfl) rfl (fun _ _ _ h => h) rfl hH (fun w' hS => ?_) ?_
    rotate_left
    · go_simp; first | done | with_reducible rfl
    simp only [List.set_cons_zero, List.set_cons_succ]
    refine wpAnyH_done (by kernel_rfl) ?_ _
    go_wp2_with fail
    go_meet
    case rel => exact ⟨rfl, Lib.hid hH⟩
  case rest =>
    obtain ⟨rfl, BW⟩ := hcut
    generalize wc = w2 at *
    have bw2 := BW.out
    have B2 := Lib.hid (bnext B1.out bw2)
    replace V3 := Lib.hid (V3.out.keeps bw2)
    replace V5 := Lib.hid (V5.out.keeps bw2)
    clear bw2 BW hqd
    go_wp2_with (first | (refine arm_loadT infCa Tryz.underlying46 rfl (.tmp 3) rfl rfl _ _ _ rfl V3.out rfl ?_) | (refine arm_loadT infX Tryz.underlying29 rfl (.tmp 5) rfl rfl _ _ _ rfl V5.out rfl ?_))
    refine (CX.out _ B2.out).mono ?_
    rintro e w3 ⟨xa, xc, rfl, sx, b3⟩
    have B3 := Lib.hid (bnext B2.out b3)
    replace V3 := Lib.hid (V3.out.keeps b3)
    replace V5 := Lib.hid (V5.out.keeps b3)
    clear b3
    clear CX sx
    go_upto_region 5 with (first | (refine arm_storeT infTy (.tmp 8) (.tmp 24) rfl rfl _ _ _ _ rfl rfl (Blk.new _ _ _) rfl rfl (by simp [tyC, Value.oneCell']) ?_; intro w4 L hs; have bb := (balloc (b0 w3) _).trans (hs.below (Nat.le_refl _))))
    have B4 := Lib.hid (bnext B3.out bb)
    replace V3 := Lib.hid (V3.out.keeps bb)
    replace V5 := Lib.hid (V5.out.keeps bb)
    clear L bb hs
    generalize w3.heap.size = g8 at *
    go_wp2_with fail
    go_loopw [10, 11, 12] (fun vi _ _ wr => ∃ j : Nat, vi = .int .i64 (j : Nat) ∧ Hid (j ≤ x.ar.len) ∧ Hid (Below w4.heap.size w4 wr)) (fun vi _ _ _ => x.ar.len - (intOf vi).toNat)
    case atStart => exact ⟨0, rfl, Lib.hid (Nat.zero_le _), Lib.hid (b0 w4)⟩
    case round =>
      obtain ⟨j, rfl, hj, hb⟩ := hrel
      have Bw := Lib.hid (bnext B4.out hb.out)
      replace V3 := Lib.hid (V3.out.keeps hb.out)
      replace V5 := Lib.hid (V5.out.keeps hb.out)
      have n11 := V5.out.cell 11
      simp only [exC, List.getElem?_toArray, List.getElem?_cons_zero, List.getElem?_cons_succ] at n11
      by_cases hlt : j < x.ar.len
      · have q1 : decide ((j : Int) < (x.ar.len : Int)) = true := decide_eq_true (by omega)
        have i1 : (j : Int) < (x.ar.len : Int) := by omega
        have f4 := Lib.hid (next_at (j := j) (by have := hL.out; omega))
        obtain ⟨bk, off, va, vc, wa, wc2, rfl, R1, E1⟩ := HX.out.ar.at hlt
        replace R1 := Lib.hid R1
        replace E1 := Lib.hid E1
        have hlt2 := Lib.hid hlt
        have ho := hqo.out j hlt
        have hi := Lib.hid (fun hk h => hop.out hk h j hlt)
        have CYj := Lib.hid (fun ds W b E => CY.out j ds W b E)
        clear hqo hop CY
        generalize x.ar.nth j = y at *
        have q2 : decide (szE x ≤ szE y) = false := decide_eq_false (by omega)
        have q3 : decide (dpE x ≤ dpE y) = false := decide_eq_false (by omega)
        clear ho
        go_upto_region 8 with fail
        go_cut [52] from 26 to 72 (fun v wx => v = .bool false ∧ Hid (Below wr.heap.size wr wx))
        case first =>
          refine wp_region_held_drew (S := fun w' => Below wr.heap.size wr w') (by kernel_rfl) (b0 wr).drew (fun hH => ?_)
          refine held_take (i := 0) (d := 33) (v := ?_) rfl (by kernel_rfl) (by kernel_rfl) (by kernel_rfl) rfl (fun _ _ _ h => h) rfl hH (fun w' hS => ?_) ?_
          rotate_left
          · go_simp; first | done | with_reducible rfl
          simp only [List.set_cons_zero, List.set_cons_succ]
          refine held_take (i := 1) (d := 34) (v := ?_) rfl (by kernel_rfl) (by kernel_rfl) (by kernel_rfl) rfl (fun _ _ _ h => h) rfl hH (fun w' hS => ?_) ?_
          rotate_left
          · have m11 := (V5.out.keeps hS).cell 11; simp only [exC, List.getElem?_toArray, List.getElem?_cons_zero, List.getElem?_cons_succ] at m11; go_simp; first | done | with_reducible rfl
          simp only [List.set_cons_zero, List.set_cons_succ]
          refine held_take (i := 2) (d := 35) (v := ?_) rfl (by kernel_rfl) (by kernel_rfl) (by kernel_rfl) rfl (fun _ _ _ h => h) rfl hH (fun w' hS => ?_) ?_
          rotate_left
          · go_simp; first | done | with_reducible rfl
          simp only [List.set_cons_zero, List.set_cons_succ]
          refine held_take (i := 3) (d := 36) (v := ?_) rfl (by kernel_rfl) (by kernel_rfl) (by kernel_rfl) rfl (fun _ _ _ h => h) rfl hH (fun w' hS => ?_) ?_
          rotate_left
          · go_simp; first | done | with_reducible rfl
          simp only [List.set_cons_zero, List.set_cons_succ]
          refine held_take (i := 4) (d := 37) (v := .agg (exC y.h y.ar.len va vc wa wc2)) rfl (by kernel_rfl) (by kernel_rfl) (by kernel_rfl) rfl (fun _ _ _ h => h) rfl hH (fun w' hS => yield_loadM infX Tryz.underlying29 rfl (.tmp 36) rfl bk (off + j * 12) (exC y.h y.ar.len va vc wa wc2) rfl (range_keeps R1.out (bnext Bw.out hS)) rfl) ?_
          simp only [List.set_cons_zero, List.set_cons_succ]
          refine held_take (i := 6) (d := 39) (v := .agg (exC x.h x.ar.len ua uc (some ⟨bk, off, none⟩) ac)) rfl (by kernel_rfl) (by kernel_rfl) (by kernel_rfl) rfl (fun _ _ _ h => h) rfl hH (fun w' hS => yield_load infX Tryz.underlying29 rfl (.tmp 5) rfl _ _ _ rfl (V5.out.keeps hS) rfl) ?_
          simp only [List.set_cons_zero, List.set_cons_succ]
          generalize wr.drew = yy at *
          refine held_only (i := 5) rfl (by kernel_rfl) rfl (fun K hK => ?_)
          go_simp
          refine (C1.out y _ _ ⟨va, vc, wa, wc2, rfl, E1.out.keeps (bnext Bw.out hH)⟩).mono ?_
          rintro e y81 ⟨rfl, b81⟩
          skip
          refine hK.out _ _ (bnext hH b81) (fun hH => ?_)
          clear hK K
          clear b81
          refine held_only (i := 7) rfl (by kernel_rfl) rfl (fun K hK => ?_)
          go_simp
          refine (C1.out x _ _ ⟨ua, uc, some ⟨bk, off, none⟩, ac, rfl, HX.out.keeps (bnext Bw.out hH)⟩).mono ?_
          rintro e y82 ⟨rfl, b82⟩
          skip
          refine hK.out _ _ (bnext hH b82) (fun hH => ?_)
          clear hK K
          clear b82
          refine held_take (i := 8) (d := 41) (v := ?_) rfl (by kernel_rfl) (by kernel_rfl) (by kernel_rfl) rfl (fun _ _ _ h => h) rfl hH (fun w' hS => ?_) ?_
          rotate_left
          · go_simp; first | done | with_reducible rfl
          simp only [List.set_cons_zero, List.set_cons_succ]
          refine held_take (i := 9) (d := 42) (v := ?_) rfl (by kernel_rfl) (by kernel_rfl) (by kernel_rfl) rfl (fun _ _ _ h => h) rfl hH (fun w' hS => ?_) ?_
          rotate_left
          · go_simp; first | done | with_reducible rfl
          simp only [List.set_cons_zero, List.set_cons_succ]
          refine held_take (i := 10) (d := 43) (v := ?_) rfl (by kernel_rfl) (by kernel_rfl) (by kernel_rfl) rfl (fun _ _ _ h => h) rfl hH (fun w' hS => ?_) ?_
          rotate_left
          · go_simp; first | done | with_reducible rfl
          simp only [List.set_cons_zero, List.set_cons_succ]
          refine held_take (i := 11) (d := 44) (v := ?_) rfl (by kernel_rfl) (by kernel_rfl) (by kernel_rfl) rfl (fun _ _ _ h => h) rfl hH (fun w' hS => ?_) ?_
          rotate_left
          · have m11 := (V5.out.keeps hS).cell 11; simp only [exC, List.getElem?_toArray, List.getElem?_cons_zero, List.getElem?_cons_succ] at m11; go_simp; first | done | with_reducible rfl
          simp only [List.set_cons_zero, List.set_cons_succ]
          refine held_take (i := 12) (d := 45) (v := ?_) rfl (by kernel_rfl) (by kernel_rfl) (by kernel_rfl) rfl (fun _ _ _ h => h) rfl hH (fun w' hS => ?_) ?_
          rotate_left
          · go_simp; first | done | with_reducible rfl
          simp only [List.set_cons_zero, List.set_cons_succ]
          refine held_take (i := 13) (d := 46) (v := ?_) rfl (by kernel_rfl) (by kernel_rfl) (by kernel_rfl) rfl (fun _ _ _ h => h) rfl hH (fun w' hS => ?_) ?_
          rotate_left
          · go_simp; first | done | with_reducible rfl
          simp only [List.set_cons_zero, List.set_cons_succ]
          refine held_take (i := 14) (d := 47) (v := .agg (exC y.h y.ar.len va vc wa wc2)) rfl (by kernel_rfl) (by kernel_rfl) (by kernel_rfl) rfl (fun _ _ _ h => h) rfl hH (fun w' hS => yield_loadM infX Tryz.underlying29 rfl (.tmp 46) rfl bk (off + j * 12) (exC y.h y.ar.len va vc wa wc2) rfl (range_keeps R1.out (bnext Bw.out hS)) rfl) ?_
          simp only [List.set_cons_zero, List.set_cons_succ]
          refine held_take (i := 16) (d := 49) (v := .agg (exC x.h x.ar.len ua uc (some ⟨bk, off, none⟩) ac)) rfl (by kernel_rfl) (by kernel_rfl) (by kernel_rfl) rfl (fun _ _ _ h => h) rfl hH (fun w' hS => yield_load infX Tryz.underlying29 rfl (.tmp 5) rfl _ _ _ rfl (V5.out.keeps hS) rfl) ?_
          simp only [List.set_cons_zero, List.set_cons_succ]
          refine held_only (i := 15) rfl (by kernel_rfl) rfl (fun K hK => ?_)
          go_simp
          refine (C2.out y _ _ ⟨va, vc, wa, wc2, rfl, E1.out.keeps (bnext Bw.out hH)⟩).mono ?_
          rintro e y83 ⟨rfl, b83⟩
          skip
          refine hK.out _ _ (bnext hH b83) (fun hH => ?_)
          clear hK K
          clear b83
          refine held_only (i := 17) rfl (by kernel_rfl) rfl (fun K hK => ?_)
          go_simp
          refine (C2.out x _ _ ⟨ua, uc, some ⟨bk, off, none⟩, ac, rfl, HX.out.keeps (bnext Bw.out hH)⟩).mono ?_
          rintro e y84 ⟨rfl, b84⟩
          skip
          refine hK.out _ _ (bnext hH b84) (fun hH => ?_)
          clear hK K
          clear b84
          refine held_take (i := 18) (d := 51) (v := ?_) rfl (by kernel_rfl) (by kernel_rfl) (by kernel_rfl) rfl (fun _ _ _ h => h) rfl hH (fun w' hS => ?_) ?_
          rotate_left
          · go_simp; first | done | with_reducible rfl
          simp only [List.set_cons_zero, List.set_cons_succ]
          refine held_take (i := 19) (d := 52) (v := ?_) rfl (by kernel_rfl) (by kernel_rfl) (by kernel_rfl) rfl (fun _ _ _ h => h) rfl hH (fun w' hS => ?_) ?_
          rotate_left
          · go_simp; first | done | with_reducible rfl
          simp only [List.set_cons_zero, List.set_cons_succ]
          refine wpAnyH_done (by kernel_rfl) ?_ _
          go_wp2_with fail
          go_meet
          case rel => exact ⟨rfl, Lib.hid hH⟩
        case rest =>
          obtain ⟨rfl, BW⟩ := hcut
          generalize wc = w6 at *
          replace V3 := Lib.hid (V3.out.keeps BW.out)
          replace V5 := Lib.hid (V5.out.keeps BW.out)
          have Bx := Lib.hid (bnext Bw.out BW.out)
          have hb6 := Lib.hid (bnext hb.out BW.out)
          clear BW Bw hb q2 q3 n11 C1 C2
          have n0 := V5.out.cell 0
          simp only [exC, List.getElem?_toArray, List.getElem?_cons_zero] at n0
          by_cases hr : r.1 = 0
          · have qr := in_is hr
            have qr2 : (r.1 != 0) = false := by simp [hr]
            by_cases hk : x.h.k = 5
            · have qk := in_is hk
              replace hk := Lib.hid hk
              replace hr := Lib.hid hr
              go_wp2_with fail
              exact ⟨⟨j + 1, congrArg (Value.int .i64) f4.out, hlt2, hb6⟩, less_at hlt2.out f4.out⟩
            · have qk := in_ne hk
              have hry := hi.out hk hr
              replace hk := Lib.hid hk
              replace hr := Lib.hid hr
              clear hi
              generalize inf ts gs en y = ry at *
              replace hry := Lib.hid hry
              go_upto_region 11 with fail
              go_cut [11, 12] from 26 to 72 (fun va vb wx => ∃ g, va = .pointer (some ⟨g, 0, none⟩) ∧ vb = .int .i64 ry.1 ∧ Hid (Below w6.heap.size w6 wx))
              case first =>
                refine wp_region_held_drew (S := fun w' => Below w6.heap.size w6 w') (by kernel_rfl) (b0 w6).drew (fun hH => ?_)
                refine held_take (i := 0) (d := 61) (v := .agg #[.slice ta tn tc, .slice ga gn gc, .slice da dn dc, .slice pa pn pc]) rfl (by kernel_rfl) (by kernel_rfl) (by kernel_rfl) rfl (fun _ _ _ h => h) rfl hH (fun w' hS => yield_load infCa Tryz.underlying46 rfl (.tmp 3) rfl _ _ _ rfl (V3.out.keeps hS) rfl) ?_
                simp only [List.set_cons_zero, List.set_cons_succ]
                refine held_take (i := 1) (d := 62) (v := ?_) rfl (by kernel_rfl) (by kernel_rfl) (by kernel_rfl) rfl (fun _ _ _ h => h) rfl hH (fun w' hS => ?_) ?_
                rotate_left
                · go_simp; first | done | with_reducible rfl
                simp only [List.set_cons_zero, List.set_cons_succ]
                refine held_take (i := 2) (d := 63) (v := ?_) rfl (by kernel_rfl) (by kernel_rfl) (by kernel_rfl) rfl (fun _ _ _ h => h) rfl hH (fun w' hS => ?_) ?_
                rotate_left
                · go_simp; first | done | with_reducible rfl
                simp only [List.set_cons_zero, List.set_cons_succ]
                refine held_take (i := 3) (d := 64) (v := ?_) rfl (by kernel_rfl) (by kernel_rfl) (by kernel_rfl) rfl (fun _ _ _ h => h) rfl hH (fun w' hS => ?_) ?_
                rotate_left
                · have m11 := (V5.out.keeps hS).cell 11; simp only [exC, List.getElem?_toArray, List.getElem?_cons_zero, List.getElem?_cons_succ] at m11; go_simp; first | done | with_reducible rfl
                simp only [List.set_cons_zero, List.set_cons_succ]
                refine held_take (i := 4) (d := 65) (v := ?_) rfl (by kernel_rfl) (by kernel_rfl) (by kernel_rfl) rfl (fun _ _ _ h => h) rfl hH (fun w' hS => ?_) ?_
                rotate_left
                · go_simp; first | done | with_reducible rfl
                simp only [List.set_cons_zero, List.set_cons_succ]
                refine held_take (i := 5) (d := 66) (v := ?_) rfl (by kernel_rfl) (by kernel_rfl) (by kernel_rfl) rfl (fun _ _ _ h => h) rfl hH (fun w' hS => ?_) ?_
                rotate_left
                · go_simp; first | done | with_reducible rfl
                simp only [List.set_cons_zero, List.set_cons_succ]
                refine held_take (i := 6) (d := 67) (v := .agg (exC y.h y.ar.len va vc wa wc2)) rfl (by kernel_rfl) (by kernel_rfl) (by kernel_rfl) rfl (fun _ _ _ h => h) rfl hH (fun w' hS => yield_loadM infX Tryz.underlying29 rfl (.tmp 66) rfl bk (off + j * 12) (exC y.h y.ar.len va vc wa wc2) rfl (range_keeps R1.out (bnext Bx.out hS)) rfl) ?_
                simp only [List.set_cons_zero, List.set_cons_succ]
                generalize w6.drew = yy at *
                refine held_two (i := 7) (j := 11) rfl rfl (by kernel_rfl) rfl rfl (fun K hK => ?_) (fun K hK => ?_)
                · go_simp
                  refine (CYj.out _ _ (bnext Bx.out hH) ⟨va, vc, wa, wc2, rfl, E1.out.keeps (bnext Bx.out hH)⟩).mono ?_
                  rintro e y111 ⟨qa, qc, rfl, sy, b111⟩
                  skip
                  refine hK.out _ _ (bnext hH b111) (fun hH => ?_)
                  clear hK K
                  have SY := Lib.hid sy
                  clear b111 sy
                  refine held_take (i := 8) (d := 60) (v := ?_) rfl (by kernel_rfl) (by kernel_rfl) (by kernel_rfl) rfl (fun _ _ _ h => h) rfl hH (fun w' hS => ?_) ?_
                  rotate_left
                  · go_simp; first | done | with_reducible rfl
                  simp only [List.set_cons_zero, List.set_cons_succ]
                  refine held_take (i := 9) (d := 69) (v := ?_) rfl (by kernel_rfl) (by kernel_rfl) (by kernel_rfl) rfl (fun _ _ _ h => h) rfl hH (fun w' hS => ?_) ?_
                  rotate_left
                  · go_simp; first | done | with_reducible rfl
                  simp only [List.set_cons_zero, List.set_cons_succ]
                  refine held_take (i := 10) (d := 70) (v := ?_) rfl (by kernel_rfl) (by kernel_rfl) (by kernel_rfl) rfl (fun _ _ _ h => h) rfl hH (fun w' hS => ?_) ?_
                  rotate_left
                  · go_simp; first | done | with_reducible rfl
                  simp only [List.set_cons_zero, List.set_cons_succ]
                  refine held_only (i := 11) rfl (by kernel_rfl) rfl (fun K hK => ?_)
                  go_simp
                  have lb := Lib.hid hH.size
                  refine hK.out _ _ (balloc hH _) (fun hH => ?_)
                  clear hK K
                  have N112 := Lib.hid (Blk.new y111 36 #[.int .i64 0, .slice none 0 0, .string ⟨#[]⟩])
                  replace SY := Lib.hid (SY.out.keeps (balloc (b0 y111) (.cells #[.int .i64 0, .slice none 0 0, .string ⟨#[]⟩] 36)))
                  generalize hz : (y111.alloc (.cells #[.int .i64 0, .slice none 0 0, .string ⟨#[]⟩] 36)) = y112 at *
                  clear hz
                  generalize y111.heap.size = g112 at *
                  refine held_only (i := 12) rfl (by kernel_rfl) rfl (fun K hK => ?_)
                  refine op_storeT infTy (.tmp 11) (.tmp 69) rfl g112 _ (tyC ry.2 qa qc) _ rfl rfl N112.out rfl rfl (by simp [tyC, Value.oneCell']) ?_
                  intro y9 L9 hs9
                  refine hK.out _ _ (hH.trans (hs9.below lb.out)) (fun hH => ?_)
                  clear hK K
                  refine held_take (i := 13) (d := 12) (v := ?_) rfl (by kernel_rfl) (by kernel_rfl) (by kernel_rfl) rfl (fun _ _ _ h => h) rfl hH (fun w' hS => ?_) ?_
                  rotate_left
                  · go_simp; first | done | with_reducible rfl
                  simp only [List.set_cons_zero, List.set_cons_succ]
                  refine wpAnyH_done (by kernel_rfl) ?_ _
                  go_wp2_with fail
                  go_meet
                  case rel => exact ⟨g112, rfl, rfl, Lib.hid hH⟩
                · go_simp
                  have lb := Lib.hid hH.size
                  refine hK.out _ _ (balloc hH _) (fun hH => ?_)
                  clear hK K
                  have N113 := Lib.hid (Blk.new yy 36 #[.int .i64 0, .slice none 0 0, .string ⟨#[]⟩])
                  generalize hz : (yy.alloc (.cells #[.int .i64 0, .slice none 0 0, .string ⟨#[]⟩] 36)) = y113 at *
                  clear hz
                  generalize yy.heap.size = g113 at *
                  refine held_only (i := 7) rfl (by kernel_rfl) rfl (fun K hK => ?_)
                  go_simp
                  refine (CYj.out _ _ (bnext Bx.out hH) ⟨va, vc, wa, wc2, rfl, E1.out.keeps (bnext Bx.out hH)⟩).mono ?_
                  rintro e y114 ⟨qa, qc, rfl, sy, b114⟩
                  skip
                  refine hK.out _ _ (bnext hH b114) (fun hH => ?_)
                  clear hK K
                  replace N113 := Lib.hid (N113.out.keeps b114)
                  have SY := Lib.hid sy
                  clear b114 sy
                  refine held_take (i := 8) (d := 60) (v := ?_) rfl (by kernel_rfl) (by kernel_rfl) (by kernel_rfl) rfl (fun _ _ _ h => h) rfl hH (fun w' hS => ?_) ?_
                  rotate_left
                  · go_simp; first | done | with_reducible rfl
                  simp only [List.set_cons_zero, List.set_cons_succ]
                  refine held_take (i := 9) (d := 69) (v := ?_) rfl (by kernel_rfl) (by kernel_rfl) (by kernel_rfl) rfl (fun _ _ _ h => h) rfl hH (fun w' hS => ?_) ?_
                  rotate_left
                  · go_simp; first | done | with_reducible rfl
                  simp only [List.set_cons_zero, List.set_cons_succ]
                  refine held_take (i := 10) (d := 70) (v := ?_) rfl (by kernel_rfl) (by kernel_rfl) (by kernel_rfl) rfl (fun _ _ _ h => h) rfl hH (fun w' hS => ?_) ?_
                  rotate_left
                  · go_simp; first | done | with_reducible rfl
                  simp only [List.set_cons_zero, List.set_cons_succ]
                  refine held_only (i := 12) rfl (by kernel_rfl) rfl (fun K hK => ?_)
                  refine op_storeT infTy (.tmp 11) (.tmp 69) rfl g113 _ (tyC ry.2 qa qc) _ rfl rfl N113.out rfl rfl (by simp [tyC, Value.oneCell']) ?_
                  intro y9 L9 hs9
                  refine hK.out _ _ (hH.trans (hs9.below lb.out)) (fun hH => ?_)
                  clear hK K
                  refine held_take (i := 13) (d := 12) (v := ?_) rfl (by kernel_rfl) (by kernel_rfl) (by kernel_rfl) rfl (fun _ _ _ h => h) rfl hH (fun w' hS => ?_) ?_
                  rotate_left
                  · go_simp; first | done | with_reducible rfl
                  simp only [List.set_cons_zero, List.set_cons_succ]
                  refine wpAnyH_done (by kernel_rfl) ?_ _
                  go_wp2_with fail
                  go_meet
                  case rel => exact ⟨g113, rfl, rfl, Lib.hid hH⟩
              case rest =>
                obtain ⟨g, rfl, rfl, BW⟩ := hcut
                generalize wc = w7 at *
                have hb7 := Lib.hid (bnext hb6.out BW.out)
                have qy : (ry.1 != 0) = false := by rw [hry.out]; rfl
                clear BW
                go_wp2_with fail
                exact ⟨⟨j + 1, congrArg (Value.int .i64) f4.out, hlt2, hb7⟩, less_at hlt2.out f4.out⟩
          · have qr := in_ne hr
            have qr2 : (r.1 != 0) = true := by simp [hr]
            replace hr := Lib.hid hr
            go_wp2_with fail
            trace_state
            exact ⟨⟨j + 1, congrArg (Value.int .i64) f4.out, hlt2, hb6⟩, less_at hlt2.out f4.out⟩
      · have q1 : decide ((j : Int) < (x.ar.len : Int)) = false := decide_eq_false (by omega)
        go_wp2_with fail
        go_ret
        exact bl_of rfl Bw.out
end Go.Proofs.YtbkpjhffmaldmaaGreatDoor.ch

/-
  The reference's Form; The reference's Shape; Parsing ar plain data: expressions, types, windows, units, tables and features of a list of tokens; What the parser reads from the pieces of an expression of proper form: this expression
-/
import Derived.Test.YtbahfelnbofjjaaGreatDoorQ04
import Derived.Test.YtbahfelnbofjjaaGreatDoorQ05
import Derived.Test.YtbahfelnbofjjaaGreatDoorQ07
import Derived.Test.YtbahfelnbofjjaaGreatDoorQ10
import Derived.Test.YtbahfelnbofjjaaGreatDoorYo04
namespace Go.Proofs.YtbahfelnbofjjaaGreatDoor.ch
open Go.RowKit dec

set_option maxRecDepth 100000 in
set_option maxHeartbeats 4000000 in
theorem rform_step (n : Nat) (IH : ∀ (i : Bool) (x : Ex) (ua aa : Option Addr) (uc ac : Nat) (w : World), x.ar.sz < n → x.szs → Ec w x ua uc aa ac → Calls Tryz.prog 65 #[.agg (exC x.h x.ar.len ua uc aa ac), .bool i] w (Bl (fmE i x) w))
    (i : Bool) (x : Ex) (ua aa : Option Addr) (uc ac : Nat) (w : World) (hz : x.ar.sz = n) (hsx : x.szs) (hA : Ec w x ua uc aa ac) : Calls Tryz.prog 65 #[.agg (exC x.h x.ar.len ua uc aa ac), .bool i] w (Bl (fmE i x) w) := by
  have bb := balloc (b0 w) (.cells (exC x.h x.ar.len ua uc aa ac) 29)
  have B0 := Lib.hid bb
  have G := Lib.hid (Blk.new w 29 (exC x.h x.ar.len ua uc aa ac))
  have HA := Lib.hid (hA.keeps bb)
  have IH' := Lib.hid IH
  have HZ := Lib.hid hz
  have HS := Lib.hid hsx
  have CN := Lib.hid (fun (W : World) (S : Ec W x ua uc aa ac) => rnode_any i x.h x.ar.len ua aa uc ac W hsx.h.vs S.us)
  have hmax := Lib.hid (show x.ar.len ≤ 9223372036854775807 from by have := hA.ar.hcap; have := hA.ar.hmax; omega)
  have hE := Lib.hid (fm_eq i x)
  have hD := Lib.hid (nod_is i x.h x.ar.len (x.ar.nth 0).h)
  clear bb hA IH hz hsx
  go_enter Tryz.func65, Tryz.ntmps65
  go_upto_region 1 with fail
  generalize hw0 : (w.alloc (.cells (exC x.h x.ar.len ua uc aa ac) 29)) = w0 at *
  generalize hg2 : w.heap.size = g2 at G ⊢
  clear hw0 hg2
  go_wp2_with (first | (refine arm_loadT infX Tryz.underlying29 rfl (.tmp 2) rfl rfl _ _ _ rfl G.out rfl ?_))
  refine (CN.out _ HA.out).mono ?_
  rintro e w1 ⟨rfl, b1⟩
  have B1 := Lib.hid (bnext B0.out b1)
  replace G := Lib.hid (G.out.keeps b1)
  replace HA := Lib.hid (HA.out.keeps b1)
  clear b1
  clear CN
  have c0 := G.out.cell 0
  have c11 := G.out.cell 11
  simp only [exC, List.getElem?_toArray, List.getElem?_cons_zero, List.getElem?_cons_succ] at c0 c11
  have hk9 : i = true → rnoR i x.h = true → x.h.k ≠ 5 := fun e h k => by rw [e] at h; unfold rnoR at h; simp [k] at h
  replace hk9 := Lib.hid hk9
  have h52 := Lib.hid (show x.h.k = 5 → arN x.h.k = 2 from fun e => by rw [e]; rfl)
  generalize hr : rnoR i x.h = r at *
  generalize hm : arN x.h.k = m at *
  clear hr hm
  cases r
  · go_wp2_with fail
    go_ret
    exact bl_of (by rw [hE.out, ← hD.out]; rfl) B1.out
  · by_cases hn : (x.ar.len : Int) = m
    · have q1 : ((x.ar.len : Int) != m) = false := by simp [hn]
      have hF : fmE i x = (cntR x.h (truH (x.ar.nth 0).h) && fmA (i || decide (x.h.k = 5)) x.ar) := by rw [hE.out, ← hD.out, decide_eq_true hn]; rfl
      replace hF := Lib.hid hF
      subst hn
      clear hE hD
      cases i
      · by_cases hk : x.h.k = 5
        · have hF2 : fmE false x = ((!decide (x.h.op = ⟨#[99, 111, 117, 110, 116]⟩) || truH (x.ar.nth 0).h) && fmA true x.ar) := by rw [hF.out]; unfold cntR; rw [decide_eq_true hk]; rfl
          have qk := in_is hk
          have qk2 : (x.h.k != 5) = false := by simp [hk]
          have hl2 := Lib.hid (h52.out hk)
          replace hF2 := Lib.hid hF2
          replace hk := Lib.hid hk
          clear hF
          go_wp2_with fail
          go_loopw [7] (fun vi wr => ∃ j : Nat, vi = .int .i64 (j : Nat) ∧ Hid (j ≤ x.ar.len) ∧ Hid (fmA true x.ar = fmA true (x.ar.drop j)) ∧ Hid (Below w1.heap.size w1 wr)) (fun vi _ => x.ar.len - (intOf vi).toNat)
          case atStart => exact ⟨0, rfl, Lib.hid (Nat.zero_le _), Lib.hid (by rw [drop_zero]), Lib.hid (b0 w1)⟩
          case round =>
            obtain ⟨j, rfl, hj, hR, hb⟩ := hrel
            have Bw := Lib.hid (bnext B1.out hb.out)
            replace G := Lib.hid (G.out.keeps hb.out)
            replace HA := Lib.hid (HA.out.keeps hb.out)
            by_cases hlt : j < x.ar.len
            · have q1 : decide ((j : Int) < (x.ar.len : Int)) = true := decide_eq_true (by omega)
              have i1 : (j : Int) < (x.ar.len : Int) := by omega
              have f4 := Lib.hid (next_at (j := j) (by have := hmax.out; omega))
              obtain ⟨bk, off, va, wa, vc, wc2, rfl, R1, E1⟩ := HA.out.ar.at hlt
              replace R1 := Lib.hid R1
              replace E1 := Lib.hid E1
              have hR2 := Lib.hid (hR.out.trans (fmA_at hlt true))
              have hsz := Lib.hid (nth_sz x.ar j hlt)
              have hys := Lib.hid (nth_szs x.ar j HS.out.ar)
              have hlt2 := Lib.hid hlt
              clear HA hj
              generalize hy : x.ar.nth j = y at *
              clear hy
              go_upto_region 7 with fail
              go_cut [40] from 28 to 40 (fun v wx => v = .bool (!fmE true y) ∧ Hid (Below wr.heap.size wr wx))
              case first =>
                refine wp_region_held_drew (S := fun w' => Below wr.heap.size wr w') (by kernel_rfl) (b0 wr).drew (fun hH => ?_)
                refine held_take (i := 0) (d := 28) (v := ?_) rfl (by kernel_rfl) (by kernel_rfl) (by kernel_rfl) rfl (fun _ _ _ h => h) rfl hH (fun w' hS => ?_) ?_
                rotate_left
                · go_simp; first | done | with_reducible rfl
                simp only [List.set_cons_zero, List.set_cons_succ]
                refine held_take (i := 1) (d := 29) (v := ?_) rfl (by kernel_rfl) (by kernel_rfl) (by kernel_rfl) rfl (fun _ _ _ h => h) rfl hH (fun w' hS => ?_) ?_
                rotate_left
                · have m11 := (G.out.keeps hS).cell 11; simp only [exC, List.getElem?_toArray, List.getElem?_cons_zero, List.getElem?_cons_succ] at m11; go_simp; first | done | with_reducible rfl
                simp only [List.set_cons_zero, List.set_cons_succ]
                refine held_take (i := 2) (d := 30) (v := ?_) rfl (by kernel_rfl) (by kernel_rfl) (by kernel_rfl) rfl (fun _ _ _ h => h) rfl hH (fun w' hS => ?_) ?_
                rotate_left
                · go_simp; first | done | with_reducible rfl
                simp only [List.set_cons_zero, List.set_cons_succ]
                refine held_take (i := 3) (d := 31) (v := ?_) rfl (by kernel_rfl) (by kernel_rfl) (by kernel_rfl) rfl (fun _ _ _ h => h) rfl hH (fun w' hS => ?_) ?_
                rotate_left
                · go_simp; first | done | with_reducible rfl
                simp only [List.set_cons_zero, List.set_cons_succ]
                refine held_take (i := 4) (d := 32) (v := .agg (exC y.h y.ar.len va wa vc wc2)) rfl (by kernel_rfl) (by kernel_rfl) (by kernel_rfl) rfl (fun _ _ _ h => h) rfl hH (fun w' hS => yield_loadM infX Tryz.underlying29 rfl (.tmp 31) rfl bk (off + j * 12) (exC y.h y.ar.len va wa vc wc2) rfl (range_keeps R1.out hS) rfl) ?_
                simp only [List.set_cons_zero, List.set_cons_succ]
                refine held_take (i := 5) (d := 33) (v := ?_) rfl (by kernel_rfl) (by kernel_rfl) (by kernel_rfl) rfl (fun _ _ _ h => h) rfl hH (fun w' hS => ?_) ?_
                rotate_left
                · go_simp; first | done | with_reducible rfl
                simp only [List.set_cons_zero, List.set_cons_succ]
                refine held_take (i := 6) (d := 34) (v := ?_) rfl (by kernel_rfl) (by kernel_rfl) (by kernel_rfl) rfl (fun _ _ _ h => h) rfl hH (fun w' hS => ?_) ?_
                rotate_left
                · go_simp; first | done | with_reducible rfl
                simp only [List.set_cons_zero, List.set_cons_succ]
                generalize wr.drew = yy at *
                refine held_take (i := 7) (d := 35) (v := ?_) rfl (by kernel_rfl) (by kernel_rfl) (by kernel_rfl) rfl (fun _ _ _ h => h) rfl hH (fun w' hS => ?_) ?_
                rotate_left
                · go_simp; first | done | with_reducible rfl
                simp only [List.set_cons_zero, List.set_cons_succ]
                refine held_take (i := 8) (d := 36) (v := ?_) rfl (by kernel_rfl) (by kernel_rfl) (by kernel_rfl) rfl (fun _ _ _ h => h) rfl hH (fun w' hS => ?_) ?_
                rotate_left
                · have m0 := (G.out.keeps hS).cell 0; simp only [exC, List.getElem?_toArray, List.getElem?_cons_zero] at m0; go_simp; first | done | with_reducible rfl
                simp only [List.set_cons_zero, List.set_cons_succ]
                refine held_take (i := 9) (d := 37) (v := ?_) rfl (by kernel_rfl) (by kernel_rfl) (by kernel_rfl) rfl (fun _ _ _ h => h) rfl hH (fun w' hS => ?_) ?_
                rotate_left
                · go_simp; first | done | with_reducible rfl
                simp only [List.set_cons_zero, List.set_cons_succ]
                refine held_take (i := 10) (d := 38) (v := ?_) rfl (by kernel_rfl) (by kernel_rfl) (by kernel_rfl) rfl (fun _ _ _ h => h) rfl hH (fun w' hS => ?_) ?_
                rotate_left
                · go_simp; first | done | with_reducible rfl
                simp only [List.set_cons_zero, List.set_cons_succ]
                refine held_only (i := 11) rfl (by kernel_rfl) rfl (fun K hK => ?_)
                go_simp
                refine (IH'.out true y va vc wa wc2 _ (by have := hsz.out; have := HZ.out; omega) hys.out (E1.out.keeps hH)).mono ?_
                rintro e y71 ⟨rfl, b71⟩
                skip
                refine hK.out _ _ (bnext hH b71) (fun hH => ?_)
                clear hK K
                clear b71
                refine held_take (i := 12) (d := 40) (v := ?_) rfl (by kernel_rfl) (by kernel_rfl) (by kernel_rfl) rfl (fun _ _ _ h => h) rfl hH (fun w' hS => ?_) ?_
                rotate_left
                · go_simp; first | done | with_reducible rfl
                simp only [List.set_cons_zero, List.set_cons_succ]
                refine wpAnyH_done (by kernel_rfl) ?_ _
                go_wp2_with fail
                go_meet
                case rel => exact ⟨rfl, Lib.hid hH⟩
              case rest =>
                obtain ⟨rfl, BW⟩ := hcut
                have Bx := Lib.hid (bnext Bw.out BW.out)
                have hb6 := Lib.hid (bnext hb.out BW.out)
                clear BW
                generalize fmE true y = fy at *
                cases fy
                · go_wp2_with fail
                  go_ret
                  exact bl_of (by rw [hF2.out, hR2.out, Bool.false_and, Bool.and_false]) Bx.out
                · go_wp2_with fail
                  exact ⟨⟨j + 1, congrArg (Value.int .i64) f4.out, hlt2, Lib.hid (hR2.out.trans (Bool.true_and _)), hb6⟩, less_at hlt2.out f4.out⟩
            · have q1 : decide ((j : Int) < (x.ar.len : Int)) = false := decide_eq_false (by omega)
              have hT := Lib.hid (show fmA true x.ar = true from by rw [hR.out, drop_end _ _ (by omega)]; rfl)
              clear hR
              go_upto_region 9 with fail
              go_cut [4] from 41 to 56 (fun v wx => v = .bool (fmE false x) ∧ Hid (Below wr.heap.size wr wx))
              case first =>
                refine wp_region_held_drew (S := fun w' => Below wr.heap.size wr w') (by kernel_rfl) (b0 wr).drew (fun hH => ?_)
                refine held_take (i := 0) (d := 41) (v := ?_) rfl (by kernel_rfl) (by kernel_rfl) (by kernel_rfl) rfl (fun _ _ _ h => h) rfl hH (fun w' hS => ?_) ?_
                rotate_left
                · go_simp; first | done | with_reducible rfl
                simp only [List.set_cons_zero, List.set_cons_succ]
                refine held_take (i := 1) (d := 42) (v := ?_) rfl (by kernel_rfl) (by kernel_rfl) (by kernel_rfl) rfl (fun _ _ _ h => h) rfl hH (fun w' hS => ?_) ?_
                rotate_left
                · have m0 := (G.out.keeps hS).cell 0; simp only [exC, List.getElem?_toArray, List.getElem?_cons_zero] at m0; go_simp; first | done | with_reducible rfl
                simp only [List.set_cons_zero, List.set_cons_succ]
                refine held_take (i := 2) (d := 43) (v := ?_) rfl (by kernel_rfl) (by kernel_rfl) (by kernel_rfl) rfl (fun _ _ _ h => h) rfl hH (fun w' hS => ?_) ?_
                rotate_left
                · go_simp; first | done | with_reducible rfl
                simp only [List.set_cons_zero, List.set_cons_succ]
                refine held_take (i := 3) (d := 44) (v := ?_) rfl (by kernel_rfl) (by kernel_rfl) (by kernel_rfl) rfl (fun _ _ _ h => h) rfl hH (fun w' hS => ?_) ?_
                rotate_left
                · go_simp; first | done | with_reducible rfl
                simp only [List.set_cons_zero, List.set_cons_succ]
                generalize wr.drew = yy at *
                by_cases hc : x.h.op = ⟨#[99, 111, 117, 110, 116]⟩
                · have qs : (x.h.op.toList == [99, 111, 117, 110, 116]) = true := by rw [eqL]; exact decide_eq_true hc
                  have qn : (!x.h.op.toList == [99, 111, 117, 110, 116]) = false := by rw [qs]; rfl
                  have qc := Lib.hid (decide_eq_true hc)
                  clear hc
                  have h0l : 0 < x.ar.len := by have := hl2.out; omega
                  obtain ⟨bk, off, va, wa, vc, wc2, rfl, R1, E1⟩ := HA.out.ar.at h0l
                  rw [Nat.zero_mul, Nat.add_zero] at R1
                  replace R1 := Lib.hid R1
                  replace E1 := Lib.hid E1
                  have hy0 := fmA_nth x.ar true 0 hT.out h0l
                  rw [fm_eq, Bool.and_eq_true] at hy0
                  have ht := Lib.hid (tru_is hy0.1)
                  clear hy0
                  generalize x.ar.nth 0 = y at *
                  refine held_take (i := 4) (d := 45) (v := ?_) rfl (by kernel_rfl) (by kernel_rfl) (by kernel_rfl) rfl (fun _ _ _ h => h) rfl hH (fun w' hS => ?_) ?_
                  rotate_left
                  · go_simp; first | done | with_reducible rfl
                  simp only [List.set_cons_zero, List.set_cons_succ]
                  refine held_take (i := 5) (d := 46) (v := ?_) rfl (by kernel_rfl) (by kernel_rfl) (by kernel_rfl) rfl (fun _ _ _ h => h) rfl hH (fun w' hS => ?_) ?_
                  rotate_left
                  · have m1 := (G.out.keeps hS).cell 1; simp only [exC, List.getElem?_toArray, List.getElem?_cons_zero, List.getElem?_cons_succ] at m1; go_simp; first | done | with_reducible rfl
                  simp only [List.set_cons_zero, List.set_cons_succ]
                  refine held_take (i := 6) (d := 47) (v := ?_) rfl (by kernel_rfl) (by kernel_rfl) (by kernel_rfl) rfl (fun _ _ _ h => h) rfl hH (fun w' hS => ?_) ?_
                  rotate_left
                  · go_simp; first | done | with_reducible rfl
                  simp only [List.set_cons_zero, List.set_cons_succ]
                  refine held_take (i := 7) (d := 48) (v := ?_) rfl (by kernel_rfl) (by kernel_rfl) (by kernel_rfl) rfl (fun _ _ _ h => h) rfl hH (fun w' hS => ?_) ?_
                  rotate_left
                  · go_simp; first | done | with_reducible rfl
                  simp only [List.set_cons_zero, List.set_cons_succ]
                  refine held_take (i := 8) (d := 49) (v := ?_) rfl (by kernel_rfl) (by kernel_rfl) (by kernel_rfl) rfl (fun _ _ _ h => h) rfl hH (fun w' hS => ?_) ?_
                  rotate_left
                  · go_simp; first | done | with_reducible rfl
                  simp only [List.set_cons_zero, List.set_cons_succ]
                  refine held_take (i := 9) (d := 50) (v := ?_) rfl (by kernel_rfl) (by kernel_rfl) (by kernel_rfl) rfl (fun _ _ _ h => h) rfl hH (fun w' hS => ?_) ?_
                  rotate_left
                  · go_simp; first | done | with_reducible rfl
                  simp only [List.set_cons_zero, List.set_cons_succ]
                  refine held_take (i := 10) (d := 51) (v := ?_) rfl (by kernel_rfl) (by kernel_rfl) (by kernel_rfl) rfl (fun _ _ _ h => h) rfl hH (fun w' hS => ?_) ?_
                  rotate_left
                  · have m11 := (G.out.keeps hS).cell 11; simp only [exC, List.getElem?_toArray, List.getElem?_cons_zero, List.getElem?_cons_succ] at m11; go_simp; first | done | with_reducible rfl
                  simp only [List.set_cons_zero, List.set_cons_succ]
                  refine held_take (i := 11) (d := 52) (v := ?_) rfl (by kernel_rfl) (by kernel_rfl) (by kernel_rfl) rfl (fun _ _ _ h => h) rfl hH (fun w' hS => ?_) ?_
                  rotate_left
                  · go_simp; first | done | with_reducible rfl
                  simp only [List.set_cons_zero, List.set_cons_succ]
                  refine held_take (i := 12) (d := 53) (v := .agg (exC y.h y.ar.len va wa vc wc2)) rfl (by kernel_rfl) (by kernel_rfl) (by kernel_rfl) rfl (fun _ _ _ h => h) rfl hH (fun w' hS => yield_loadM infX Tryz.underlying29 rfl (.tmp 52) rfl bk off (exC y.h y.ar.len va wa vc wc2) rfl (range_keeps R1.out hS) rfl) ?_
                  simp only [List.set_cons_zero, List.set_cons_succ]
                  refine held_only (i := 13) rfl (by kernel_rfl) rfl (fun K hK => ?_)
                  go_simp
                  refine (true_e _).mono ?_
                  rintro e y91 ⟨rfl, b91⟩
                  skip
                  refine hK.out _ _ (bnext hH b91) (fun hH => ?_)
                  clear hK K
                  clear b91
                  refine held_only (i := 14) rfl (by kernel_rfl) rfl (fun K hK => ?_)
                  go_simp
                  refine (sameTrue_any y.h y.ar.len va vc wa wc2 _ (E1.out.us.keeps hH)).mono ?_
                  rintro e y92 ⟨rfl, b92⟩
                  skip
                  refine hK.out _ _ (bnext hH b92) (fun hH => ?_)
                  clear hK K
                  clear b92
                  refine held_take (i := 15) (d := 56) (v := ?_) rfl (by kernel_rfl) (by kernel_rfl) (by kernel_rfl) rfl (fun _ _ _ h => h) rfl hH (fun w' hS => ?_) ?_
                  rotate_left
                  · go_simp; first | done | with_reducible rfl
                  simp only [List.set_cons_zero, List.set_cons_succ]
                  refine held_take (i := 16) (d := 4) (v := ?_) rfl (by kernel_rfl) (by kernel_rfl) (by kernel_rfl) rfl (fun _ _ _ h => h) rfl hH (fun w' hS => ?_) ?_
                  rotate_left
                  · go_simp; first | done | with_reducible rfl
                  simp only [List.set_cons_zero, List.set_cons_succ]
                  refine wpAnyH_done (by kernel_rfl) ?_ _
                  go_wp2_with fail
                  go_meet
                  case rel => exact ⟨congrArg Value.bool (by rw [hF2.out, hT.out, qc.out, ht.out]; simp), Lib.hid hH⟩
                · have qs : (x.h.op.toList == [99, 111, 117, 110, 116]) = false := by rw [eqL]; exact decide_eq_false hc
                  have qn : (!x.h.op.toList == [99, 111, 117, 110, 116]) = true := by rw [qs]; rfl
                  have qc := Lib.hid (decide_eq_false hc)
                  clear hc
                  refine held_take (i := 4) (d := 45) (v := ?_) rfl (by kernel_rfl) (by kernel_rfl) (by kernel_rfl) rfl (fun _ _ _ h => h) rfl hH (fun w' hS => ?_) ?_
                  rotate_left
                  · go_simp; first | done | with_reducible rfl
                  simp only [List.set_cons_zero, List.set_cons_succ]
                  refine held_take (i := 5) (d := 46) (v := ?_) rfl (by kernel_rfl) (by kernel_rfl) (by kernel_rfl) rfl (fun _ _ _ h => h) rfl hH (fun w' hS => ?_) ?_
                  rotate_left
                  · have m1 := (G.out.keeps hS).cell 1; simp only [exC, List.getElem?_toArray, List.getElem?_cons_zero, List.getElem?_cons_succ] at m1; go_simp; first | done | with_reducible rfl
                  simp only [List.set_cons_zero, List.set_cons_succ]
                  refine held_take (i := 6) (d := 47) (v := ?_) rfl (by kernel_rfl) (by kernel_rfl) (by kernel_rfl) rfl (fun _ _ _ h => h) rfl hH (fun w' hS => ?_) ?_
                  rotate_left
                  · go_simp; first | done | with_reducible rfl
                  simp only [List.set_cons_zero, List.set_cons_succ]
                  refine held_take (i := 7) (d := 48) (v := ?_) rfl (by kernel_rfl) (by kernel_rfl) (by kernel_rfl) rfl (fun _ _ _ h => h) rfl hH (fun w' hS => ?_) ?_
                  rotate_left
                  · go_simp; first | done | with_reducible rfl
                  simp only [List.set_cons_zero, List.set_cons_succ]
                  refine held_take (i := 8) (d := 49) (v := ?_) rfl (by kernel_rfl) (by kernel_rfl) (by kernel_rfl) rfl (fun _ _ _ h => h) rfl hH (fun w' hS => ?_) ?_
                  rotate_left
                  · go_simp; first | done | with_reducible rfl
                  simp only [List.set_cons_zero, List.set_cons_succ]
                  refine off_take (i := 9) (d := 50) rfl (by kernel_rfl) (by kernel_rfl) (by kernel_rfl) rfl (fun _ _ _ h => h) rfl hH ?_
                  simp only [List.set_cons_zero, List.set_cons_succ]
                  refine off_take (i := 10) (d := 51) rfl (by kernel_rfl) (by kernel_rfl) (by kernel_rfl) rfl (fun _ _ _ h => h) rfl hH ?_
                  simp only [List.set_cons_zero, List.set_cons_succ]
                  refine off_take (i := 11) (d := 52) rfl (by kernel_rfl) (by kernel_rfl) (by kernel_rfl) rfl (fun _ _ _ h => h) rfl hH ?_
                  simp only [List.set_cons_zero, List.set_cons_succ]
                  refine off_take (i := 12) (d := 53) rfl (by kernel_rfl) (by kernel_rfl) (by kernel_rfl) rfl (fun _ _ _ h => h) rfl hH ?_
                  simp only [List.set_cons_zero, List.set_cons_succ]
                  refine off_one (i := 13) rfl (by kernel_rfl) rfl hH ?_
                  go_simp
                  refine off_one (i := 14) rfl (by kernel_rfl) rfl hH ?_
                  go_simp
                  refine held_take (i := 15) (d := 56) (v := ?_) rfl (by kernel_rfl) (by kernel_rfl) (by kernel_rfl) rfl (fun _ _ _ h => h) rfl hH (fun w' hS => ?_) ?_
                  rotate_left
                  · go_simp; first | done | with_reducible rfl
                  simp only [List.set_cons_zero, List.set_cons_succ]
                  refine held_take (i := 16) (d := 4) (v := ?_) rfl (by kernel_rfl) (by kernel_rfl) (by kernel_rfl) rfl (fun _ _ _ h => h) rfl hH (fun w' hS => ?_) ?_
                  rotate_left
                  · go_simp; first | done | with_reducible rfl
                  simp only [List.set_cons_zero, List.set_cons_succ]
                  refine wpAnyH_done (by kernel_rfl) ?_ _
                  go_wp2_with fail
                  go_meet
                  case rel => exact ⟨congrArg Value.bool (by rw [hF2.out, hT.out, qc.out]; rfl), Lib.hid hH⟩
              case rest =>
                obtain ⟨rfl, BW⟩ := hcut
                have Bx := Lib.hid (bnext Bw.out BW.out)
                go_wp2_with fail
                go_ret
                exact bl_of rfl Bx.out
        · have hF2 : fmE false x = fmA false x.ar := by rw [hF.out]; unfold cntR; rw [decide_eq_false hk]; rfl
          have qk := in_ne hk
          have qk2 : (x.h.k != 5) = true := by simp [hk]
          replace hF2 := Lib.hid hF2
          replace hk := Lib.hid hk
          clear hF
          go_wp2_with fail
          go_loopw [7] (fun vi wr => ∃ j : Nat, vi = .int .i64 (j : Nat) ∧ Hid (j ≤ x.ar.len) ∧ Hid (fmA false x.ar = fmA false (x.ar.drop j)) ∧ Hid (Below w1.heap.size w1 wr)) (fun vi _ => x.ar.len - (intOf vi).toNat)
          case atStart => exact ⟨0, rfl, Lib.hid (Nat.zero_le _), Lib.hid (by rw [drop_zero]), Lib.hid (b0 w1)⟩
          case round =>
            obtain ⟨j, rfl, hj, hR, hb⟩ := hrel
            have Bw := Lib.hid (bnext B1.out hb.out)
            replace G := Lib.hid (G.out.keeps hb.out)
            replace HA := Lib.hid (HA.out.keeps hb.out)
            by_cases hlt : j < x.ar.len
            · have q1 : decide ((j : Int) < (x.ar.len : Int)) = true := decide_eq_true (by omega)
              have i1 : (j : Int) < (x.ar.len : Int) := by omega
              have f4 := Lib.hid (next_at (j := j) (by have := hmax.out; omega))
              obtain ⟨bk, off, va, wa, vc, wc2, rfl, R1, E1⟩ := HA.out.ar.at hlt
              replace R1 := Lib.hid R1
              replace E1 := Lib.hid E1
              have hR2 := Lib.hid (hR.out.trans (fmA_at hlt false))
              have hsz := Lib.hid (nth_sz x.ar j hlt)
              have hys := Lib.hid (nth_szs x.ar j HS.out.ar)
              have hlt2 := Lib.hid hlt
              clear HA hj
              generalize hy : x.ar.nth j = y at *
              clear hy
              go_upto_region 7 with fail
              go_cut [40] from 28 to 40 (fun v wx => v = .bool (!fmE false y) ∧ Hid (Below wr.heap.size wr wx))
              case first =>
                refine wp_region_held_drew (S := fun w' => Below wr.heap.size wr w') (by kernel_rfl) (b0 wr).drew (fun hH => ?_)
                refine held_take (i := 0) (d := 28) (v := ?_) rfl (by kernel_rfl) (by kernel_rfl) (by kernel_rfl) rfl (fun _ _ _ h => h) rfl hH (fun w' hS => ?_) ?_
                rotate_left
                · go_simp; first | done | with_reducible rfl
                simp only [List.set_cons_zero, List.set_cons_succ]
                refine held_take (i := 1) (d := 29) (v := ?_) rfl (by kernel_rfl) (by kernel_rfl) (by kernel_rfl) rfl (fun _ _ _ h => h) rfl hH (fun w' hS => ?_) ?_
                rotate_left
                · have m11 := (G.out.keeps hS).cell 11; simp only [exC, List.getElem?_toArray, List.getElem?_cons_zero, List.getElem?_cons_succ] at m11; go_simp; first | done | with_reducible rfl
                simp only [List.set_cons_zero, List.set_cons_succ]
                refine held_take (i := 2) (d := 30) (v := ?_) rfl (by kernel_rfl) (by kernel_rfl) (by kernel_rfl) rfl (fun _ _ _ h => h) rfl hH (fun w' hS => ?_) ?_
                rotate_left
                · go_simp; first | done | with_reducible rfl
                simp only [List.set_cons_zero, List.set_cons_succ]
                refine held_take (i := 3) (d := 31) (v := ?_) rfl (by kernel_rfl) (by kernel_rfl) (by kernel_rfl) rfl (fun _ _ _ h => h) rfl hH (fun w' hS => ?_) ?_
                rotate_left
                · go_simp; first | done | with_reducible rfl
                simp only [List.set_cons_zero, List.set_cons_succ]
                refine held_take (i := 4) (d := 32) (v := .agg (exC y.h y.ar.len va wa vc wc2)) rfl (by kernel_rfl) (by kernel_rfl) (by kernel_rfl) rfl (fun _ _ _ h => h) rfl hH (fun w' hS => yield_loadM infX Tryz.underlying29 rfl (.tmp 31) rfl bk (off + j * 12) (exC y.h y.ar.len va wa vc wc2) rfl (range_keeps R1.out hS) rfl) ?_
                simp only [List.set_cons_zero, List.set_cons_succ]
                refine held_take (i := 5) (d := 33) (v := ?_) rfl (by kernel_rfl) (by kernel_rfl) (by kernel_rfl) rfl (fun _ _ _ h => h) rfl hH (fun w' hS => ?_) ?_
                rotate_left
                · go_simp; first | done | with_reducible rfl
                simp only [List.set_cons_zero, List.set_cons_succ]
                refine held_take (i := 6) (d := 34) (v := ?_) rfl (by kernel_rfl) (by kernel_rfl) (by kernel_rfl) rfl (fun _ _ _ h => h) rfl hH (fun w' hS => ?_) ?_
                rotate_left
                · go_simp; first | done | with_reducible rfl
                simp only [List.set_cons_zero, List.set_cons_succ]
                generalize wr.drew = yy at *
                refine held_take (i := 7) (d := 35) (v := ?_) rfl (by kernel_rfl) (by kernel_rfl) (by kernel_rfl) rfl (fun _ _ _ h => h) rfl hH (fun w' hS => ?_) ?_
                rotate_left
                · go_simp; first | done | with_reducible rfl
                simp only [List.set_cons_zero, List.set_cons_succ]
                refine held_take (i := 8) (d := 36) (v := ?_) rfl (by kernel_rfl) (by kernel_rfl) (by kernel_rfl) rfl (fun _ _ _ h => h) rfl hH (fun w' hS => ?_) ?_
                rotate_left
                · have m0 := (G.out.keeps hS).cell 0; simp only [exC, List.getElem?_toArray, List.getElem?_cons_zero] at m0; go_simp; first | done | with_reducible rfl
                simp only [List.set_cons_zero, List.set_cons_succ]
                refine held_take (i := 9) (d := 37) (v := ?_) rfl (by kernel_rfl) (by kernel_rfl) (by kernel_rfl) rfl (fun _ _ _ h => h) rfl hH (fun w' hS => ?_) ?_
                rotate_left
                · go_simp; first | done | with_reducible rfl
                simp only [List.set_cons_zero, List.set_cons_succ]
                refine held_take (i := 10) (d := 38) (v := ?_) rfl (by kernel_rfl) (by kernel_rfl) (by kernel_rfl) rfl (fun _ _ _ h => h) rfl hH (fun w' hS => ?_) ?_
                rotate_left
                · go_simp; first | done | with_reducible rfl
                simp only [List.set_cons_zero, List.set_cons_succ]
                refine held_only (i := 11) rfl (by kernel_rfl) rfl (fun K hK => ?_)
                go_simp
                refine (IH'.out false y va vc wa wc2 _ (by have := hsz.out; have := HZ.out; omega) hys.out (E1.out.keeps hH)).mono ?_
                rintro e y71 ⟨rfl, b71⟩
                skip
                refine hK.out _ _ (bnext hH b71) (fun hH => ?_)
                clear hK K
                clear b71
                refine held_take (i := 12) (d := 40) (v := ?_) rfl (by kernel_rfl) (by kernel_rfl) (by kernel_rfl) rfl (fun _ _ _ h => h) rfl hH (fun w' hS => ?_) ?_
                rotate_left
                · go_simp; first | done | with_reducible rfl
                simp only [List.set_cons_zero, List.set_cons_succ]
                refine wpAnyH_done (by kernel_rfl) ?_ _
                go_wp2_with fail
                go_meet
                case rel => exact ⟨rfl, Lib.hid hH⟩
              case rest =>
                obtain ⟨rfl, BW⟩ := hcut
                have Bx := Lib.hid (bnext Bw.out BW.out)
                have hb6 := Lib.hid (bnext hb.out BW.out)
                clear BW
                generalize fmE false y = fy at *
                cases fy
                · go_wp2_with fail
                  go_ret
                  exact bl_of (by rw [hF2.out, hR2.out, Bool.false_and]) Bx.out
                · go_wp2_with fail
                  exact ⟨⟨j + 1, congrArg (Value.int .i64) f4.out, hlt2, Lib.hid (hR2.out.trans (Bool.true_and _)), hb6⟩, less_at hlt2.out f4.out⟩
            · have q1 : decide ((j : Int) < (x.ar.len : Int)) = false := decide_eq_false (by omega)
              have hT := Lib.hid (show fmA false x.ar = true from by rw [hR.out, drop_end _ _ (by omega)]; rfl)
              clear hR
              go_upto_region 9 with fail
              go_cut [4] from 41 to 56 (fun v wx => v = .bool (fmE false x) ∧ Hid (Below wr.heap.size wr wx))
              case first =>
                refine wp_region_held_drew (S := fun w' => Below wr.heap.size wr w') (by kernel_rfl) (b0 wr).drew (fun hH => ?_)
                refine held_take (i := 0) (d := 41) (v := ?_) rfl (by kernel_rfl) (by kernel_rfl) (by kernel_rfl) rfl (fun _ _ _ h => h) rfl hH (fun w' hS => ?_) ?_
                rotate_left
                · go_simp; first | done | with_reducible rfl
                simp only [List.set_cons_zero, List.set_cons_succ]
                refine held_take (i := 1) (d := 42) (v := ?_) rfl (by kernel_rfl) (by kernel_rfl) (by kernel_rfl) rfl (fun _ _ _ h => h) rfl hH (fun w' hS => ?_) ?_
                rotate_left
                · have m0 := (G.out.keeps hS).cell 0; simp only [exC, List.getElem?_toArray, List.getElem?_cons_zero] at m0; go_simp; first | done | with_reducible rfl
                simp only [List.set_cons_zero, List.set_cons_succ]
                refine held_take (i := 2) (d := 43) (v := ?_) rfl (by kernel_rfl) (by kernel_rfl) (by kernel_rfl) rfl (fun _ _ _ h => h) rfl hH (fun w' hS => ?_) ?_
                rotate_left
                · go_simp; first | done | with_reducible rfl
                simp only [List.set_cons_zero, List.set_cons_succ]
                refine held_take (i := 3) (d := 44) (v := ?_) rfl (by kernel_rfl) (by kernel_rfl) (by kernel_rfl) rfl (fun _ _ _ h => h) rfl hH (fun w' hS => ?_) ?_
                rotate_left
                · go_simp; first | done | with_reducible rfl
                simp only [List.set_cons_zero, List.set_cons_succ]
                generalize wr.drew = yy at *
                refine off_take (i := 4) (d := 45) rfl (by kernel_rfl) (by kernel_rfl) (by kernel_rfl) rfl (fun _ _ _ h => h) rfl hH ?_
                simp only [List.set_cons_zero, List.set_cons_succ]
                refine off_take (i := 5) (d := 46) rfl (by kernel_rfl) (by kernel_rfl) (by kernel_rfl) rfl (fun _ _ _ h => h) rfl hH ?_
                simp only [List.set_cons_zero, List.set_cons_succ]
                refine off_take (i := 6) (d := 47) rfl (by kernel_rfl) (by kernel_rfl) (by kernel_rfl) rfl (fun _ _ _ h => h) rfl hH ?_
                simp only [List.set_cons_zero, List.set_cons_succ]
                refine held_take (i := 7) (d := 48) (v := ?_) rfl (by kernel_rfl) (by kernel_rfl) (by kernel_rfl) rfl (fun _ _ _ h => h) rfl hH (fun w' hS => ?_) ?_
                rotate_left
                · go_simp; first | done | with_reducible rfl
                simp only [List.set_cons_zero, List.set_cons_succ]
                refine held_take (i := 8) (d := 49) (v := ?_) rfl (by kernel_rfl) (by kernel_rfl) (by kernel_rfl) rfl (fun _ _ _ h => h) rfl hH (fun w' hS => ?_) ?_
                rotate_left
                · go_simp; first | done | with_reducible rfl
                simp only [List.set_cons_zero, List.set_cons_succ]
                refine off_take (i := 9) (d := 50) rfl (by kernel_rfl) (by kernel_rfl) (by kernel_rfl) rfl (fun _ _ _ h => h) rfl hH ?_
                simp only [List.set_cons_zero, List.set_cons_succ]
                refine off_take (i := 10) (d := 51) rfl (by kernel_rfl) (by kernel_rfl) (by kernel_rfl) rfl (fun _ _ _ h => h) rfl hH ?_
                simp only [List.set_cons_zero, List.set_cons_succ]
                refine off_take (i := 11) (d := 52) rfl (by kernel_rfl) (by kernel_rfl) (by kernel_rfl) rfl (fun _ _ _ h => h) rfl hH ?_
                simp only [List.set_cons_zero, List.set_cons_succ]
                refine off_take (i := 12) (d := 53) rfl (by kernel_rfl) (by kernel_rfl) (by kernel_rfl) rfl (fun _ _ _ h => h) rfl hH ?_
                simp only [List.set_cons_zero, List.set_cons_succ]
                refine off_one (i := 13) rfl (by kernel_rfl) rfl hH ?_
                go_simp
                refine off_one (i := 14) rfl (by kernel_rfl) rfl hH ?_
                go_simp
                refine held_take (i := 15) (d := 56) (v := ?_) rfl (by kernel_rfl) (by kernel_rfl) (by kernel_rfl) rfl (fun _ _ _ h => h) rfl hH (fun w' hS => ?_) ?_
                rotate_left
                · go_simp; first | done | with_reducible rfl
                simp only [List.set_cons_zero, List.set_cons_succ]
                refine held_take (i := 16) (d := 4) (v := ?_) rfl (by kernel_rfl) (by kernel_rfl) (by kernel_rfl) rfl (fun _ _ _ h => h) rfl hH (fun w' hS => ?_) ?_
                rotate_left
                · go_simp; first | done | with_reducible rfl
                simp only [List.set_cons_zero, List.set_cons_succ]
                refine wpAnyH_done (by kernel_rfl) ?_ _
                go_wp2_with fail
                go_meet
                case rel => exact ⟨congrArg Value.bool (by rw [hF2.out, hT.out]), Lib.hid hH⟩
              case rest =>
                obtain ⟨rfl, BW⟩ := hcut
                have Bx := Lib.hid (bnext Bw.out BW.out)
                go_wp2_with fail
                go_ret
                exact bl_of rfl Bx.out
      · have hk := hk9.out rfl rfl
        have hF2 : fmE true x = fmA true x.ar := by rw [hF.out]; unfold cntR; rw [decide_eq_false hk]; rfl
        have qk := in_ne hk
        have qk2 : (x.h.k != 5) = true := by simp [hk]
        replace hF2 := Lib.hid hF2
        replace hk := Lib.hid hk
        clear hF
        go_wp2_with fail
        go_loopw [7] (fun vi wr => ∃ j : Nat, vi = .int .i64 (j : Nat) ∧ Hid (j ≤ x.ar.len) ∧ Hid (fmA true x.ar = fmA true (x.ar.drop j)) ∧ Hid (Below w1.heap.size w1 wr)) (fun vi _ => x.ar.len - (intOf vi).toNat)
        case atStart => exact ⟨0, rfl, Lib.hid (Nat.zero_le _), Lib.hid (by rw [drop_zero]), Lib.hid (b0 w1)⟩
        case round =>
          obtain ⟨j, rfl, hj, hR, hb⟩ := hrel
          have Bw := Lib.hid (bnext B1.out hb.out)
          replace G := Lib.hid (G.out.keeps hb.out)
          replace HA := Lib.hid (HA.out.keeps hb.out)
          by_cases hlt : j < x.ar.len
          · have q1 : decide ((j : Int) < (x.ar.len : Int)) = true := decide_eq_true (by omega)
            have i1 : (j : Int) < (x.ar.len : Int) := by omega
            have f4 := Lib.hid (next_at (j := j) (by have := hmax.out; omega))
            obtain ⟨bk, off, va, wa, vc, wc2, rfl, R1, E1⟩ := HA.out.ar.at hlt
            replace R1 := Lib.hid R1
            replace E1 := Lib.hid E1
            have hR2 := Lib.hid (hR.out.trans (fmA_at hlt true))
            have hsz := Lib.hid (nth_sz x.ar j hlt)
            have hys := Lib.hid (nth_szs x.ar j HS.out.ar)
            have hlt2 := Lib.hid hlt
            clear HA hj
            generalize hy : x.ar.nth j = y at *
            clear hy
            go_upto_region 7 with fail
            go_cut [40] from 28 to 40 (fun v wx => v = .bool (!fmE true y) ∧ Hid (Below wr.heap.size wr wx))
            case first =>
              refine wp_region_held_drew (S := fun w' => Below wr.heap.size wr w') (by kernel_rfl) (b0 wr).drew (fun hH => ?_)
              refine held_take (i := 0) (d := 28) (v := ?_) rfl (by kernel_rfl) (by kernel_rfl) (by kernel_rfl) rfl (fun _ _ _ h => h) rfl hH (fun w' hS => ?_) ?_
              rotate_left
              · go_simp; first | done | with_reducible rfl
              simp only [List.set_cons_zero, List.set_cons_succ]
              refine held_take (i := 1) (d := 29) (v := ?_) rfl (by kernel_rfl) (by kernel_rfl) (by kernel_rfl) rfl (fun _ _ _ h => h) rfl hH (fun w' hS => ?_) ?_
              rotate_left
              · have m11 := (G.out.keeps hS).cell 11; simp only [exC, List.getElem?_toArray, List.getElem?_cons_zero, List.getElem?_cons_succ] at m11; go_simp; first | done | with_reducible rfl
              simp only [List.set_cons_zero, List.set_cons_succ]
              refine held_take (i := 2) (d := 30) (v := ?_) rfl (by kernel_rfl) (by kernel_rfl) (by kernel_rfl) rfl (fun _ _ _ h => h) rfl hH (fun w' hS => ?_) ?_
              rotate_left
              · go_simp; first | done | with_reducible rfl
              simp only [List.set_cons_zero, List.set_cons_succ]
              refine held_take (i := 3) (d := 31) (v := ?_) rfl (by kernel_rfl) (by kernel_rfl) (by kernel_rfl) rfl (fun _ _ _ h => h) rfl hH (fun w' hS => ?_) ?_
              rotate_left
              · go_simp; first | done | with_reducible rfl
              simp only [List.set_cons_zero, List.set_cons_succ]
              refine held_take (i := 4) (d := 32) (v := .agg (exC y.h y.ar.len va wa vc wc2)) rfl (by kernel_rfl) (by kernel_rfl) (by kernel_rfl) rfl (fun _ _ _ h => h) rfl hH (fun w' hS => yield_loadM infX Tryz.underlying29 rfl (.tmp 31) rfl bk (off + j * 12) (exC y.h y.ar.len va wa vc wc2) rfl (range_keeps R1.out hS) rfl) ?_
              simp only [List.set_cons_zero, List.set_cons_succ]
              refine held_take (i := 5) (d := 33) (v := ?_) rfl (by kernel_rfl) (by kernel_rfl) (by kernel_rfl) rfl (fun _ _ _ h => h) rfl hH (fun w' hS => ?_) ?_
              rotate_left
              · go_simp; first | done | with_reducible rfl
              simp only [List.set_cons_zero, List.set_cons_succ]
              refine held_take (i := 6) (d := 34) (v := ?_) rfl (by kernel_rfl) (by kernel_rfl) (by kernel_rfl) rfl (fun _ _ _ h => h) rfl hH (fun w' hS => ?_) ?_
              rotate_left
              · go_simp; first | done | with_reducible rfl
              simp only [List.set_cons_zero, List.set_cons_succ]
              generalize wr.drew = yy at *
              refine off_take (i := 7) (d := 35) rfl (by kernel_rfl) (by kernel_rfl) (by kernel_rfl) rfl (fun _ _ _ h => h) rfl hH ?_
              simp only [List.set_cons_zero, List.set_cons_succ]
              refine off_take (i := 8) (d := 36) rfl (by kernel_rfl) (by kernel_rfl) (by kernel_rfl) rfl (fun _ _ _ h => h) rfl hH ?_
              simp only [List.set_cons_zero, List.set_cons_succ]
              refine off_take (i := 9) (d := 37) rfl (by kernel_rfl) (by kernel_rfl) (by kernel_rfl) rfl (fun _ _ _ h => h) rfl hH ?_
              simp only [List.set_cons_zero, List.set_cons_succ]
              refine held_take (i := 10) (d := 38) (v := ?_) rfl (by kernel_rfl) (by kernel_rfl) (by kernel_rfl) rfl (fun _ _ _ h => h) rfl hH (fun w' hS => ?_) ?_
              rotate_left
              · go_simp; first | done | with_reducible rfl
              simp only [List.set_cons_zero, List.set_cons_succ]
              refine held_only (i := 11) rfl (by kernel_rfl) rfl (fun K hK => ?_)
              go_simp
              refine (IH'.out true y va vc wa wc2 _ (by have := hsz.out; have := HZ.out; omega) hys.out (E1.out.keeps hH)).mono ?_
              rintro e y71 ⟨rfl, b71⟩
              skip
              refine hK.out _ _ (bnext hH b71) (fun hH => ?_)
              clear hK K
              clear b71
              refine held_take (i := 12) (d := 40) (v := ?_) rfl (by kernel_rfl) (by kernel_rfl) (by kernel_rfl) rfl (fun _ _ _ h => h) rfl hH (fun w' hS => ?_) ?_
              rotate_left
              · go_simp; first | done | with_reducible rfl
              simp only [List.set_cons_zero, List.set_cons_succ]
              refine wpAnyH_done (by kernel_rfl) ?_ _
              go_wp2_with fail
              go_meet
              case rel => exact ⟨rfl, Lib.hid hH⟩
            case rest =>
              obtain ⟨rfl, BW⟩ := hcut
              have Bx := Lib.hid (bnext Bw.out BW.out)
              have hb6 := Lib.hid (bnext hb.out BW.out)
              clear BW
              generalize fmE true y = fy at *
              cases fy
              · go_wp2_with fail
                go_ret
                exact bl_of (by rw [hF2.out, hR2.out, Bool.false_and]) Bx.out
              · go_wp2_with fail
                exact ⟨⟨j + 1, congrArg (Value.int .i64) f4.out, hlt2, Lib.hid (hR2.out.trans (Bool.true_and _)), hb6⟩, less_at hlt2.out f4.out⟩
          · have q1 : decide ((j : Int) < (x.ar.len : Int)) = false := decide_eq_false (by omega)
            have hT := Lib.hid (show fmA true x.ar = true from by rw [hR.out, drop_end _ _ (by omega)]; rfl)
            clear hR
            go_upto_region 9 with fail
            go_cut [4] from 41 to 56 (fun v wx => v = .bool (fmE true x) ∧ Hid (Below wr.heap.size wr wx))
            case first =>
              refine wp_region_held_drew (S := fun w' => Below wr.heap.size wr w') (by kernel_rfl) (b0 wr).drew (fun hH => ?_)
              refine held_take (i := 0) (d := 41) (v := ?_) rfl (by kernel_rfl) (by kernel_rfl) (by kernel_rfl) rfl (fun _ _ _ h => h) rfl hH (fun w' hS => ?_) ?_
              rotate_left
              · go_simp; first | done | with_reducible rfl
              simp only [List.set_cons_zero, List.set_cons_succ]
              refine held_take (i := 1) (d := 42) (v := ?_) rfl (by kernel_rfl) (by kernel_rfl) (by kernel_rfl) rfl (fun _ _ _ h => h) rfl hH (fun w' hS => ?_) ?_
              rotate_left
              · have m0 := (G.out.keeps hS).cell 0; simp only [exC, List.getElem?_toArray, List.getElem?_cons_zero] at m0; go_simp; first | done | with_reducible rfl
              simp only [List.set_cons_zero, List.set_cons_succ]
              refine held_take (i := 2) (d := 43) (v := ?_) rfl (by kernel_rfl) (by kernel_rfl) (by kernel_rfl) rfl (fun _ _ _ h => h) rfl hH (fun w' hS => ?_) ?_
              rotate_left
              · go_simp; first | done | with_reducible rfl
              simp only [List.set_cons_zero, List.set_cons_succ]
              refine held_take (i := 3) (d := 44) (v := ?_) rfl (by kernel_rfl) (by kernel_rfl) (by kernel_rfl) rfl (fun _ _ _ h => h) rfl hH (fun w' hS => ?_) ?_
              rotate_left
              · go_simp; first | done | with_reducible rfl
              simp only [List.set_cons_zero, List.set_cons_succ]
              generalize wr.drew = yy at *
              refine off_take (i := 4) (d := 45) rfl (by kernel_rfl) (by kernel_rfl) (by kernel_rfl) rfl (fun _ _ _ h => h) rfl hH ?_
              simp only [List.set_cons_zero, List.set_cons_succ]
              refine off_take (i := 5) (d := 46) rfl (by kernel_rfl) (by kernel_rfl) (by kernel_rfl) rfl (fun _ _ _ h => h) rfl hH ?_
              simp only [List.set_cons_zero, List.set_cons_succ]
              refine off_take (i := 6) (d := 47) rfl (by kernel_rfl) (by kernel_rfl) (by kernel_rfl) rfl (fun _ _ _ h => h) rfl hH ?_
              simp only [List.set_cons_zero, List.set_cons_succ]
              refine held_take (i := 7) (d := 48) (v := ?_) rfl (by kernel_rfl) (by kernel_rfl) (by kernel_rfl) rfl (fun _ _ _ h => h) rfl hH (fun w' hS => ?_) ?_
              rotate_left
              · go_simp; first | done | with_reducible rfl
              simp only [List.set_cons_zero, List.set_cons_succ]
              refine held_take (i := 8) (d := 49) (v := ?_) rfl (by kernel_rfl) (by kernel_rfl) (by kernel_rfl) rfl (fun _ _ _ h => h) rfl hH (fun w' hS => ?_) ?_
              rotate_left
              · go_simp; first | done | with_reducible rfl
              simp only [List.set_cons_zero, List.set_cons_succ]
              refine off_take (i := 9) (d := 50) rfl (by kernel_rfl) (by kernel_rfl) (by kernel_rfl) rfl (fun _ _ _ h => h) rfl hH ?_
              simp only [List.set_cons_zero, List.set_cons_succ]
              refine off_take (i := 10) (d := 51) rfl (by kernel_rfl) (by kernel_rfl) (by kernel_rfl) rfl (fun _ _ _ h => h) rfl hH ?_
              simp only [List.set_cons_zero, List.set_cons_succ]
              refine off_take (i := 11) (d := 52) rfl (by kernel_rfl) (by kernel_rfl) (by kernel_rfl) rfl (fun _ _ _ h => h) rfl hH ?_
              simp only [List.set_cons_zero, List.set_cons_succ]
              refine off_take (i := 12) (d := 53) rfl (by kernel_rfl) (by kernel_rfl) (by kernel_rfl) rfl (fun _ _ _ h => h) rfl hH ?_
              simp only [List.set_cons_zero, List.set_cons_succ]
              refine off_one (i := 13) rfl (by kernel_rfl) rfl hH ?_
              go_simp
              refine off_one (i := 14) rfl (by kernel_rfl) rfl hH ?_
              go_simp
              refine held_take (i := 15) (d := 56) (v := ?_) rfl (by kernel_rfl) (by kernel_rfl) (by kernel_rfl) rfl (fun _ _ _ h => h) rfl hH (fun w' hS => ?_) ?_
              rotate_left
              · go_simp; first | done | with_reducible rfl
              simp only [List.set_cons_zero, List.set_cons_succ]
              refine held_take (i := 16) (d := 4) (v := ?_) rfl (by kernel_rfl) (by kernel_rfl) (by kernel_rfl) rfl (fun _ _ _ h => h) rfl hH (fun w' hS => ?_) ?_
              rotate_left
              · go_simp; first | done | with_reducible rfl
              simp only [List.set_cons_zero, List.set_cons_succ]
              refine wpAnyH_done (by kernel_rfl) ?_ _
              go_wp2_with fail
              go_meet
              case rel => exact ⟨congrArg Value.bool (by rw [hF2.out, hT.out]), Lib.hid hH⟩
            case rest =>
              obtain ⟨rfl, BW⟩ := hcut
              have Bx := Lib.hid (bnext Bw.out BW.out)
              go_wp2_with fail
              go_ret
              exact bl_of rfl Bx.out
    · have q1 : ((x.ar.len : Int) != m) = true := by simp [hn]
      have q2 := decide_eq_false hn
      replace hn := Lib.hid hn
      go_wp2_with fail
      go_ret
      exact bl_of (by rw [hE.out, ← hD.out, q2]; rfl) B1.out
theorem rform_any (i : Bool) (x : Ex) (ua aa : Option Addr) (uc ac : Nat) (w : World) (hsx : x.szs) (hA : Ec w x ua uc aa ac) : Calls Tryz.prog 65 #[.agg (exC x.h x.ar.len ua uc aa ac), .bool i] w (Bl (fmE i x) w) := by
  have key : ∀ n, ∀ (i : Bool) (x : Ex) (ua aa : Option Addr) (uc ac : Nat) (w : World), x.ar.sz < n → x.szs → Ec w x ua uc aa ac → Calls Tryz.prog 65 #[.agg (exC x.h x.ar.len ua uc aa ac), .bool i] w (Bl (fmE i x) w) := by
    intro n
    induction n with
    | zero => intro i x ua aa uc ac w h; exact absurd h (Nat.not_lt_zero _)
    | succ n ih =>
      intro i x ua aa uc ac w h hsx hA
      exact rform_step x.ar.sz (fun i' x' ua' aa' uc' ac' w' h' => ih i' x' ua' aa' uc' ac' w' (by omega)) i x ua aa uc ac w rfl hsx hA
  exact key _ i x ua aa uc ac w (Nat.lt_succ_self _) hsx hA
end Go.Proofs.YtbahfelnbofjjaaGreatDoor.ch
namespace Go.Proofs.YtbahfelnbofjjaaGreatDoor.ch
open Go.RowKit dec

set_option maxRecDepth 100000 in
set_option maxHeartbeats 4000000 in
theorem rshape_any (x : Ex) (ua aa : Option Addr) (uc ac : Nat) (w : World) (hsx : x.szs) (hA : Ec w x ua uc aa ac) : Calls Tryz.prog 26 #[.agg (exC x.h x.ar.len ua uc aa ac)] w (Num (shE x) w) := by
  have bb := balloc (b0 w) (.cells (exC x.h x.ar.len ua uc aa ac) 29)
  have B0 := Lib.hid bb
  have G := Lib.hid (Blk.new w 29 (exC x.h x.ar.len ua uc aa ac))
  have HA := Lib.hid (hA.keeps bb)
  have C1 := Lib.hid (fun (W : World) (S : Ec W x ua uc aa ac) => rsize_any x ua aa uc ac W S.ar)
  have C2 := Lib.hid (fun (W : World) (S : Ec W x ua uc aa ac) => rdepth_any x ua aa uc ac W S.ar)
  have C3 := Lib.hid (fun (W : World) (S : Ec W x ua uc aa ac) => rform_any false x ua aa uc ac W hsx S)
  have hE : shE x = shE x := rfl
  conv at hE => rhs; unfold shE
  replace hE := Lib.hid hE
  clear hA bb hsx
  generalize szE x = m at *
  generalize dpE x = d at *
  generalize fmE false x = b at *
  go_enter Tryz.func26, Tryz.ntmps26
  go_wp2_with (first | (refine arm_loadT infX Tryz.underlying29 rfl (.tmp 1) rfl rfl _ _ _ rfl G.out rfl ?_) | (refine arm_loadG infX Tryz.underlying29 rfl (.tmp 1) rfl rfl _ _ _ rfl G.out rfl ?_))
  refine (C1.out _ HA.out).mono ?_
  rintro e w1 ⟨rfl, b1⟩
  have B1 := Lib.hid (bnext B0.out b1)
  replace G := Lib.hid (G.out.keeps b1)
  replace HA := Lib.hid (HA.out.keeps b1)
  clear b1
  by_cases h1 : 64 < m
  · have q1 : decide (64 < m) = true := decide_eq_true h1
    have h3 := Lib.hid h1
    clear h1
    go_wp2_with fail
    go_ret
    exact nu_of (by rw [hE.out, if_pos (.inl h3.out)]) B1.out
  · have q1 : decide (64 < m) = false := decide_eq_false h1
    have h3 := Lib.hid h1
    clear h1
    go_wp2_with (first | (refine arm_loadT infX Tryz.underlying29 rfl (.tmp 1) rfl rfl _ _ _ rfl G.out rfl ?_) | (refine arm_loadG infX Tryz.underlying29 rfl (.tmp 1) rfl rfl _ _ _ rfl G.out rfl ?_))
    refine (C2.out _ HA.out).mono ?_
    rintro e w2 ⟨rfl, b2⟩
    have B2 := Lib.hid (bnext B1.out b2)
    replace G := Lib.hid (G.out.keeps b2)
    replace HA := Lib.hid (HA.out.keeps b2)
    clear b2
    by_cases h2 : 12 < d
    · have q2 : decide (12 < d) = true := decide_eq_true h2
      have h4 := Lib.hid h2
      clear h2
      go_wp2_with fail
      go_ret
      exact nu_of (by rw [hE.out, if_pos (.inr h4.out)]) B2.out
    · have q2 : decide (12 < d) = false := decide_eq_false h2
      have h4 := Lib.hid (show ¬ (64 < m ∨ 12 < d) from fun h => h.elim (fun e => absurd e (by have := h3.out; omega)) h2)
      clear h2
      go_wp2_with (first | (refine arm_loadT infX Tryz.underlying29 rfl (.tmp 1) rfl rfl _ _ _ rfl G.out rfl ?_) | (refine arm_loadG infX Tryz.underlying29 rfl (.tmp 1) rfl rfl _ _ _ rfl G.out rfl ?_))
      refine (C3.out _ HA.out).mono ?_
      rintro e w3 ⟨rfl, b3⟩
      have B3 := Lib.hid (bnext B2.out b3)
      replace G := Lib.hid (G.out.keeps b3)
      replace HA := Lib.hid (HA.out.keeps b3)
      clear b3
      cases b
      · go_wp2_with fail
        go_ret
        exact nu_of (by rw [hE.out, if_neg h4.out]; rfl) B3.out
      · go_wp2_with fail
        go_ret
        exact nu_of (by rw [hE.out, if_neg h4.out]; rfl) B3.out
end Go.Proofs.YtbahfelnbofjjaaGreatDoor.ch
namespace Go.Proofs.YtbahfelnbofjjaaGreatDoor
open Go.RowKit dec

structure Fe where
  nm : ByteArray
  en : ByteArray
  ty : Ty
  bo : Ex

/-- What a reader does with a list of tokens: not enough steps; a value and what is left; a problem with its offset and code and what is left. -/
inductive Rs (α : Type) where
  | out
  | ok (v : α) (r : List Tk)
  | no (a c : Int) (r : List Tk)
def Rs.bind {α β : Type} (x : Rs α) (g : α → List Tk → Rs β) : Rs β :=
  match x with
  | .out => .out
  | .ok v r => g v r
  | .no a c r => .no a c r

def hd (l : List Tk) : Tk := l.headD ⟨6, .empty, 0⟩
def wrg {α : Type} (l : List Tk) : Rs α := .no (hd l).a 90 l
def isT (s : ByteArray) (l : List Tk) : Bool := (decide ((hd l).k = 1) || decide ((hd l).k = 5)) && decide ((hd l).t = s)
def need (s : ByteArray) (l : List Tk) : Rs Unit := if isT s l = true then .ok () l.tail else wrg l
def tak (k : Int) (l : List Tk) : Rs ByteArray := if (hd l).k = k then .ok (hd l).t l.tail else wrg l
def nam (l : List Tk) : Rs ByteArray := if name (hd l).t = true then tak 1 l else wrg l
def nma (s : ByteArray) (l : List Tk) : Rs ByteArray := (need s l).bind fun _ r => nam r
def int (l : List Tk) : Rs Int := (tak 2 l).bind fun s r => .ok (atoiN s.data.toList) r
def deci (l : List Tk) : Rs Int := (tak 3 l).bind fun s r => .ok (paX s.data.toList) r
/-- What one reads, again and again with a sign in between; x: what has been read. -/
def more {α : Type} (one : List Tk → Rs α) (s : ByteArray) : Nat → List α → List Tk → Rs (List α)
  | 0, _, _ => .out
  | f + 1, x, l => if isT s l = true then (one l.tail).bind fun y r => more one s f (x ++ [y]) r else .ok x l
def lst {α : Type} (one : List Tk → Rs α) (s : ByteArray) (l : List Tk) : Rs (List α) := (one l).bind fun y r => more one s (r.length + 1) [y] r
def fac (l : List Tk) : Rs un.Fa :=
  (nam l).bind fun n r => if isT ⟨#[94]⟩ r = true then
    (if isT ⟨#[45]⟩ r.tail = true then (int r.tail.tail).bind fun x r => .ok (n, IntKind.i64.wrap (-1 * min x 1099511627776)) r else (int r.tail).bind fun x r => .ok (n, IntKind.i64.wrap (1 * min x 1099511627776)) r)
    else .ok (n, 1) r
def uni (l : List Tk) : Rs (List un.Fa) :=
  if isT ⟨#[91]⟩ l = true then (lst fac ⟨#[42]⟩ l.tail).bind fun u r => (need ⟨#[93]⟩ r).bind fun _ r => if un.nE u = 0 then .ok (un.nL u) r else .no (hd l).a (un.nE u) r
  else .ok [] l
def typ (l : List Tk) : Rs Ty :=
  if isT ⟨#[98, 111, 111, 108]⟩ l = true then .ok ⟨1, [], .empty⟩ l.tail
  else if isT ⟨#[116, 101, 120, 116]⟩ l = true then .ok ⟨4, [], .empty⟩ l.tail
  else if isT ⟨#[107, 101, 121]⟩ l = true then (nam l.tail).bind fun n r => .ok ⟨5, [], n⟩ r
  else if isT ⟨#[105, 110, 116]⟩ l = true then (uni l.tail).bind fun u r => .ok ⟨2, u, .empty⟩ r
  else if isT ⟨#[100, 101, 99]⟩ l = true then (uni l.tail).bind fun u r => .ok ⟨3, u, .empty⟩ r
  else wrg l
def win (l : List Tk) : Rs (Int × Int) :=
  if isT ⟨#[97, 108, 108]⟩ l = true then .ok (1, 0) l.tail
  else if isT ⟨#[115, 108, 105, 100, 105, 110, 103]⟩ l = true then (int l.tail).bind fun n r => .ok (2, n) r
  else if isT ⟨#[116, 117, 109, 98, 108, 105, 110, 103]⟩ l = true then (int l.tail).bind fun n r => .ok (3, n) r
  else if isT ⟨#[115, 101, 115, 115, 105, 111, 110]⟩ l = true then (int l.tail).bind fun n r => .ok (4, n) r
  else wrg l
def agg (s : ByteArray) : Bool := [(⟨#[99, 111, 117, 110, 116]⟩ : ByteArray), ⟨#[115, 117, 109]⟩, ⟨#[109, 101, 97, 110]⟩, ⟨#[109, 105, 110]⟩, ⟨#[109, 97, 120]⟩, ⟨#[102, 105, 114, 115, 116]⟩, ⟨#[108, 97, 115, 116]⟩, ⟨#[100, 105, 115, 116, 105, 110, 99, 116]⟩, ⟨#[113, 117, 97, 110, 116, 105, 108, 101]⟩, ⟨#[100, 101, 99, 97, 121]⟩].any fun t => decide (s = t)

def booE (n : Int) : Ex := ⟨{ h0 with k := 1, vk := 1, vn := n }, .nil⟩
def unaE (op : ByteArray) (x : Ex) : Ex := ⟨{ h0 with k := 6, op := op }, .cons x.h x.ar .nil⟩
def binE (op : ByteArray) (x y : Ex) : Ex := if op = ⟨#[100, 101, 102, 97, 117, 108, 116]⟩ then ⟨{ h0 with k := 9 }, .cons x.h x.ar (.cons y.h y.ar .nil)⟩ else ⟨{ h0 with k := 7, op := op }, .cons x.h x.ar (.cons y.h y.ar .nil)⟩
def ifE (x y z : Ex) : Ex := ⟨{ h0 with k := 8 }, .cons x.h x.ar (.cons y.h y.ar (.cons z.h z.ar .nil))⟩
def litE (vk vn : Int) (u : List un.Fa) : Ex := ⟨{ h0 with k := 1, vk := vk, vn := vn, un := u }, .nil⟩
def texE (s : ByteArray) : Ex := ⟨{ h0 with k := 1, vk := 4, vs := s }, .nil⟩
def keyE (n s : ByteArray) : Ex := ⟨{ h0 with k := 1, nm := n, vk := 5, vs := s }, .nil⟩
def fieE (n : ByteArray) : Ex := ⟨{ h0 with k := 2, nm := n }, .nil⟩
def feaE (n : ByteArray) : Ex := ⟨{ h0 with k := 3, nm := n }, .nil⟩
def looE (n : ByteArray) (x : Ex) : Ex := ⟨{ h0 with k := 4, nm := n }, .cons x.h x.ar .nil⟩
def aggE (op t : ByteArray) (p : Int) (w : Int × Int) (x y : Ex) : Ex := ⟨{ h0 with k := 5, op := op, tb := t, pa := p, wk := w.1, ws := w.2 }, .cons x.h x.ar (.cons y.h y.ar .nil)⟩

/-- The operators, by rank. -/
def opL : Nat → List ByteArray
  | 0 => [⟨#[100, 101, 102, 97, 117, 108, 116]⟩]
  | 1 => [⟨#[111, 114]⟩]
  | 2 => [⟨#[97, 110, 100]⟩]
  | 3 => [⟨#[61, 61]⟩, ⟨#[33, 61]⟩, ⟨#[60]⟩, ⟨#[60, 61]⟩]
  | 4 => [⟨#[43]⟩, ⟨#[45]⟩]
  | _ => [⟨#[42]⟩, ⟨#[47]⟩]
/-- An operator of a rank; the empty text, if none follows. -/
def opr (n : Nat) (l : List Tk) : ByteArray := ((opL n).find? fun s => isT s l).getD .empty

def key (l : List Tk) : Rs Ex :=
  (nma ⟨#[64]⟩ l).bind fun n r => (tak 4 r).bind fun s r' => if ck ⟨5, 0, s⟩ = 0 then .ok (keyE n s) r' else .no (hd r).a 3 r'
/-- Where a reader of expressions stands. -/
inductive Md where
  | ex | op (least : Nat) | tl (least n : Nat) (x : Ex) | ng | pr | pa | ag | rf
/-- An optional condition. -/
def pz : Nat → Bool → Md → List Tk → Rs Ex
  | 0, _, _, _ => .out
  | f + 1, i, .ex, l =>
    if isT ⟨#[105, 102]⟩ l = true then
      (pz f i .ex l.tail).bind fun x r => (need ⟨#[116, 104, 101, 110]⟩ r).bind fun _ r => (pz f i .ex r).bind fun y r => (need ⟨#[101, 108, 115, 101]⟩ r).bind fun _ r => (pz f i .ex r).bind fun z r => .ok (ifE x y z) r
    else pz f i (.op 0) l
  | f + 1, i, .op least, l =>
    if least ≤ 3 ∧ isT ⟨#[110, 111, 116]⟩ l = true then (pz f i (.op 3) l.tail).bind fun x r => pz f i (.tl least 3 (unaE ⟨#[110, 111, 116]⟩ x)) r
    else (pz f i .ng l).bind fun x r => pz f i (.tl least 6 x) r
  | f + 1, i, .tl least n x, l =>
    if n ≤ least then .ok x l
    else if opr (n - 1) l = .empty then pz f i (.tl least (n - 1) x) l
    else (pz f i (.op n) l.tail).bind fun y r => pz f i (.tl least (if n = 4 then 3 else n) (binE (opr (n - 1) l) x y)) r
  | f + 1, i, .ng, l => if isT ⟨#[45]⟩ l = true then (pz f i .ng l.tail).bind fun x r => .ok (unaE ⟨#[45]⟩ x) r else pz f i .pr l
  | f + 1, i, .pa, l => (need ⟨#[40]⟩ l).bind fun _ r => (pz f i .ex r).bind fun x r => (need ⟨#[41]⟩ r).bind fun _ r => .ok x r
  | f + 1, i, .rf, l => (nam l).bind fun n r => if isT ⟨#[111, 102]⟩ r = true then (pz f i .pa r.tail).bind fun x r => .ok (looE n x) r else .ok (feaE n) r
  | f + 1, _, .ag, l =>
    (tak 1 l).bind fun op r => (need ⟨#[40]⟩ r).bind fun _ r => (nam r).bind fun t r => (need ⟨#[44]⟩ r).bind fun _ r =>
    (if op = ⟨#[99, 111, 117, 110, 116]⟩ then .ok (booE 1) r else (pz f true .ex r).bind fun x r => (need ⟨#[44]⟩ r).bind fun _ r => .ok x r).bind fun x r =>
    (if op = ⟨#[113, 117, 97, 110, 116, 105, 108, 101]⟩ ∨ op = ⟨#[100, 101, 99, 97, 121]⟩ then (int r).bind fun n r => (need ⟨#[44]⟩ r).bind fun _ r => .ok n r else .ok 0 r).bind fun p r =>
    (win r).bind fun w r => (if isT ⟨#[119, 104, 101, 114, 101]⟩ r = true then pz f true .ex r.tail else .ok (booE 1) r).bind fun y r => (need ⟨#[41]⟩ r).bind fun _ r => .ok (aggE op t p w x y) r
  | f + 1, i, .pr, l =>
    if (hd l).k = 2 then (int l).bind fun n r => (uni r).bind fun u r => .ok (litE 2 n u) r
    else if (hd l).k = 3 then (deci l).bind fun n r => (uni r).bind fun u r => .ok (litE 3 n u) r
    else if (hd l).k = 4 then (tak 4 l).bind fun s r => .ok (texE s) r
    else if isT ⟨#[116, 114, 117, 101]⟩ l = true then .ok (booE 1) l.tail
    else if isT ⟨#[102, 97, 108, 115, 101]⟩ l = true then .ok (booE 0) l.tail
    else if isT ⟨#[64]⟩ l = true then key l
    else if isT ⟨#[110, 117, 108, 108]⟩ l = true then (pz f i .pa l.tail).bind fun x r => .ok (unaE ⟨#[110, 117, 108, 108]⟩ x) r
    else if isT ⟨#[40]⟩ l = true then pz f i .pa l
    else if i = true then (nam l).bind fun n r => .ok (fieE n) r
    else if agg (hd l).t = true then pz f i .ag l
    else pz f i .rf l
end Go.Proofs.YtbahfelnbofjjaaGreatDoor
namespace Go.Proofs.YtbahfelnbofjjaaGreatDoor.ch
open Go.RowKit dec

def tkl (K : List Pc) : List Tk := K.map tk0
theorem tkl_app (a b : List Pc) : tkl (a ++ b) = tkl a ++ tkl b := List.map_append ..
theorem tkl_cons (p : Pc) (b : List Pc) : tkl (p :: b) = tk0 p :: tkl b := rfl
theorem tkl_sp (K : List Pc) : tkl (sp K) = tkl K := by cases K <;> rfl
theorem isT_w (s t : ByteArray) (a : Int) (r : List Tk) : isT s (⟨1, t, a⟩ :: r) = decide (t = s) := by unfold isT hd; simp
theorem isT_s (s t : ByteArray) (a : Int) (r : List Tk) : isT s (⟨5, t, a⟩ :: r) = decide (t = s) := by unfold isT hd; simp
theorem isT_o {k : Int} (h1 : k ≠ 1) (h5 : k ≠ 5) (s t : ByteArray) (a : Int) (r : List Tk) : isT s (⟨k, t, a⟩ :: r) = false := by unfold isT hd; simp [h1, h5]
theorem isT_tail {s : ByteArray} {l : List Tk} (h : isT s l = true) : ∃ x r, l = x :: r ∧ l.tail = r := by
  cases l with
  | nil => unfold isT hd at h; simp at h
  | cons x r => exact ⟨x, r, rfl, rfl⟩
theorem nt {b : Bool} (h : b = false) : ¬ b = true := by rw [h]; decide
theorem tak_hit (k : Int) (t : ByteArray) (a : Int) (r : List Tk) : tak k (⟨k, t, a⟩ :: r) = .ok t r := by unfold tak hd; simp
theorem nam_hit {m : ByteArray} (h : name m = true) (a : Int) (r : List Tk) : nam (⟨1, m, a⟩ :: r) = .ok m r := by
  unfold nam
  rw [if_pos (show name (hd (⟨1, m, a⟩ :: r)).t = true from h)]
  exact tak_hit ..
theorem need_hit {s : ByteArray} {l : List Tk} (h : isT s l = true) : need s l = .ok () l.tail := by unfold need; rw [if_pos h]
theorem int_hit {n : Int} (h1 : 0 ≤ n) (h2 : n ≤ 1152921504606846976) (a : Int) (r : List Tk) : int (⟨2, ⟨(Lib.itoa n).toArray⟩, a⟩ :: r) = .ok n r := by
  unfold int
  rw [tak_hit]
  show Rs.ok (atoiN (Lib.itoa n).toArray.toList) r = _
  rw [show (Lib.itoa n).toArray.toList = Lib.itoa n from rfl, atoi_back (by omega) (by omega)]
theorem deci_hit {n : Int} (h1 : 0 ≤ n) (h2 : n ≤ 1152921504606846976) (a : Int) (r : List Tk) : deci (⟨3, ⟨(foX n).toArray⟩, a⟩ :: r) = .ok n r := by
  unfold deci
  rw [tak_hit]
  show Rs.ok (paX (foX n).toArray.toList) r = _
  rw [show (foX n).toArray.toList = foX n from rfl, (pa_fo (by omega) (by omega)).1]

/-! Units. -/
theorem wr_s {n : Int} (h1 : -8 ≤ n) (h2 : n ≤ 8) : IntKind.i64.wrap n = n := by rw [IntKind.wrap_i64]; omega
theorem fac_hit {x : un.Fa} (hn : name x.1 = true) (h1 : -8 ≤ x.2) (h2 : x.2 ≤ 8) {r : List Tk} (hr : isT ⟨#[94]⟩ r = false) : fac (tkl (faK x) ++ r) = .ok x r := by
  obtain ⟨m, e⟩ := x
  unfold fac
  have e0 : tkl (faK (m, e)) ++ r = ⟨1, m, 0⟩ :: (tkl (if e = 1 then [] else sg ⟨#[94]⟩ :: ((if e < 0 then [sg ⟨#[45]⟩] else []) ++ [(false, 2, ⟨(Lib.decDigits e.natAbs).toArray⟩)])) ++ r) := rfl
  rw [e0, nam_hit hn]
  by_cases q1 : e = 1
  · subst q1
    rw [if_pos rfl]
    show (if isT ⟨#[94]⟩ r = true then _ else Rs.ok (m, 1) r) = _
    rw [if_neg (nt hr)]
  · rw [if_neg q1]
    have hd : Lib.decDigits e.natAbs = Lib.itoa (e.natAbs : Nat) := by unfold Lib.itoa; rw [if_neg (by omega)]; rfl
    rw [hd]
    by_cases q2 : e < 0
    · rw [if_pos q2]
      show (int (⟨2, ⟨(Lib.itoa (e.natAbs : Nat)).toArray⟩, 0⟩ :: r)).bind (fun x r => (Rs.ok (m, IntKind.i64.wrap (-1 * min x 1099511627776)) r : Rs un.Fa)) = Rs.ok (m, e) r
      rw [int_hit (by omega) (by omega)]
      show Rs.ok (m, IntKind.i64.wrap (-1 * min ((e.natAbs : Nat) : Int) 1099511627776)) r = _
      rw [show -1 * min ((e.natAbs : Nat) : Int) 1099511627776 = e by omega, wr_s h1 h2]
    · rw [if_neg q2]
      show (int (⟨2, ⟨(Lib.itoa (e.natAbs : Nat)).toArray⟩, 0⟩ :: r)).bind (fun x r => (Rs.ok (m, IntKind.i64.wrap (1 * min x 1099511627776)) r : Rs un.Fa)) = Rs.ok (m, e) r
      rw [int_hit (by omega) (by omega)]
      show Rs.ok (m, IntKind.i64.wrap (1 * min ((e.natAbs : Nat) : Int) 1099511627776)) r = _
      rw [show 1 * min ((e.natAbs : Nat) : Int) 1099511627776 = e by omega, wr_s h1 h2]
theorem faK_pos (x : un.Fa) : 1 ≤ (tkl (faK x)).length := by unfold faK tkl; simp
theorem fas_hit : ∀ (us : List un.Fa) (acc : List un.Fa) (f : Nat) (r : List Tk), (∀ x ∈ us, name x.1 = true ∧ -8 ≤ x.2 ∧ x.2 ≤ 8) → us.length < f → isT ⟨#[42]⟩ r = false → isT ⟨#[94]⟩ r = false →
    more fac ⟨#[42]⟩ f acc (tkl (us.map fun y => sg ⟨#[42]⟩ :: faK y).flatten ++ r) = .ok (acc ++ us) r
  | [], acc, f + 1, r, _, _, hr, _ => by
    show (if isT ⟨#[42]⟩ r = true then _ else Rs.ok acc r) = _
    rw [if_neg (nt hr), List.append_nil]
  | x :: us, acc, f + 1, r, h, hf, hr, hr2 => by
    obtain ⟨a1, a2, a3⟩ := h x (List.mem_cons_self ..)
    have e0 : tkl ((x :: us).map fun y => sg ⟨#[42]⟩ :: faK y).flatten ++ r = ⟨5, ⟨#[42]⟩, 0⟩ :: (tkl (faK x) ++ (tkl (us.map fun y => sg ⟨#[42]⟩ :: faK y).flatten ++ r)) := by
      rw [List.map_cons, List.flatten_cons, tkl_app, tkl_cons, List.cons_append, List.cons_append, List.append_assoc]
      rfl
    rw [e0]
    show (if isT ⟨#[42]⟩ (⟨5, ⟨#[42]⟩, 0⟩ :: _) = true then (fac (tkl (faK x) ++ (tkl (us.map fun y => sg ⟨#[42]⟩ :: faK y).flatten ++ r))).bind fun y r => more fac ⟨#[42]⟩ f (acc ++ [y]) r else _) = _
    have hh : isT ⟨#[94]⟩ (tkl (us.map fun y => sg ⟨#[42]⟩ :: faK y).flatten ++ r) = false := by
      cases us with
      | nil => exact hr2
      | cons y us => rfl
    rw [isT_s, if_pos (by decide), fac_hit a1 a2 a3 hh]
    show more fac ⟨#[42]⟩ f (acc ++ [x]) _ = _
    rw [fas_hit us _ f r (fun y hy => h y (List.mem_cons_of_mem _ hy)) (by simp at hf; omega) hr hr2, List.append_assoc]
    rfl
theorem fas_len (us : List un.Fa) (r : List Tk) : us.length ≤ (tkl (us.map fun y => sg ⟨#[42]⟩ :: faK y).flatten ++ r).length := by
  induction us with
  | nil => simp
  | cons x us ih =>
    rw [List.map_cons, List.flatten_cons, tkl_app, List.append_assoc, List.length_append]
    have : 1 ≤ (tkl (sg ⟨#[42]⟩ :: faK x)).length := by rw [tkl_cons]; simp
    simp only [List.length_cons] at *
    omega
theorem uni_hit {u : List un.Fa} (h : Un u) {r : List Tk} (hr : isT ⟨#[91]⟩ r = false) : uni (tkl (unK u) ++ r) = .ok u r := by
  cases u with
  | nil =>
    show (if isT ⟨#[91]⟩ r = true then _ else Rs.ok [] r) = _
    rw [if_neg (nt hr)]
  | cons x us =>
    have hf : ∀ y ∈ x :: us, name y.1 = true ∧ -8 ≤ y.2 ∧ y.2 ≤ 8 := fun y hy => ⟨h.n y hy, (fa_far h hy).1, (fa_far h hy).2.1⟩
    obtain ⟨a1, a2, a3⟩ := hf x (List.mem_cons_self ..)
    have e0 : tkl (unK (x :: us)) ++ r = ⟨5, ⟨#[91]⟩, 0⟩ :: (tkl (faK x) ++ (tkl (us.map fun y => sg ⟨#[42]⟩ :: faK y).flatten ++ (⟨5, ⟨#[93]⟩, 0⟩ :: r))) := by
      unfold unK
      rw [tkl_cons, tkl_app, tkl_app, List.cons_append, List.append_assoc, List.append_assoc]
      rfl
    rw [e0]
    generalize ht : (tkl (us.map fun y => sg ⟨#[42]⟩ :: faK y).flatten ++ (⟨5, ⟨#[93]⟩, 0⟩ :: r)) = t
    have hh : isT ⟨#[94]⟩ t = false := by
      rw [← ht]
      cases us with
      | nil => rfl
      | cons y us => rfl
    have hl : us.length < t.length + 1 := by have := fas_len us (⟨5, ⟨#[93]⟩, 0⟩ :: r); rw [ht] at this; omega
    have hm : more fac ⟨#[42]⟩ (t.length + 1) [x] t = .ok (x :: us) (⟨5, ⟨#[93]⟩, 0⟩ :: r) := by
      have := fas_hit us [x] (t.length + 1) (⟨5, ⟨#[93]⟩, 0⟩ :: r) (fun y hy => hf y (List.mem_cons_of_mem _ hy)) hl rfl rfl
      rw [ht] at this
      exact this
    show (if isT ⟨#[91]⟩ (⟨5, ⟨#[91]⟩, 0⟩ :: (tkl (faK x) ++ t)) = true then (lst fac ⟨#[42]⟩ (tkl (faK x) ++ t)).bind fun u r => (need ⟨#[93]⟩ r).bind fun _ r => if un.nE u = 0 then .ok (un.nL u) r else .no (hd (⟨5, ⟨#[91]⟩, 0⟩ :: (tkl (faK x) ++ t))).a (un.nE u) r else _) = _
    rw [isT_s, if_pos (by decide)]
    unfold lst
    rw [fac_hit a1 a2 a3 hh]
    show ((more fac ⟨#[42]⟩ (t.length + 1) [x] t).bind fun u r => (need ⟨#[93]⟩ r).bind fun _ r => if un.nE u = 0 then .ok (un.nL u) r else _) = _
    rw [hm]
    show ((need ⟨#[93]⟩ (⟨5, ⟨#[93]⟩, 0⟩ :: r)).bind fun _ r => if un.nE (x :: us) = 0 then .ok (un.nL (x :: us)) r else _) = _
    rw [need_hit (by rw [isT_s]; decide)]
    show (if un.nE (x :: us) = 0 then Rs.ok (un.nL (x :: us)) r else _) = _
    rw [if_pos (un.n_ok h.o).1, (un.n_ok h.o).2]
theorem nm_no {m w : ByteArray} (h : name m = true) (hw : name w = false) (a : Int) (r : List Tk) : isT w (⟨1, m, a⟩ :: r) = false := by
  rw [isT_w, decide_eq_false]
  rintro rfl
  rw [h] at hw
  cases hw
theorem typ_hit {t : Ty} (h : tyE t = 0) {r : List Tk} (hr : isT ⟨#[91]⟩ r = false) : typ (tkl (tyK t) ++ r) = .ok t r := by
  rcases tyE_cases h with (rfl | rfl) | ⟨s, rfl, hs⟩ | ⟨u, rfl | rfl, hu⟩
  · rfl
  · rfl
  · show (nam (⟨1, s, 0⟩ :: r)).bind (fun n r => (Rs.ok ⟨5, [], n⟩ r : Rs Ty)) = Rs.ok ⟨5, [], s⟩ r
    rw [nam_hit hs]; rfl
  · show (uni (tkl (unK u) ++ r)).bind (fun u r => (Rs.ok ⟨2, u, .empty⟩ r : Rs Ty)) = Rs.ok ⟨2, u, .empty⟩ r
    rw [uni_hit hu hr]; rfl
  · show (uni (tkl (unK u) ++ r)).bind (fun u r => (Rs.ok ⟨3, u, .empty⟩ r : Rs Ty)) = Rs.ok ⟨3, u, .empty⟩ r
    rw [uni_hit hu hr]; rfl
theorem win_hit {k n : Int} (h : winH k n = true) (r : List Tk) : win (tkl (wiK k n) ++ r) = .ok (k, n) r := by
  rcases winH_cases h with ⟨rfl, rfl⟩ | ⟨h1, h2, h3⟩
  · rfl
  · rcases h1 with rfl | rfl | rfl
    · show (int (⟨2, ⟨(Lib.itoa n).toArray⟩, 0⟩ :: r)).bind (fun n r => Rs.ok ((2 : Int), n) r) = _
      rw [int_hit (by omega) (by omega)]; rfl
    · show (int (⟨2, ⟨(Lib.itoa n).toArray⟩, 0⟩ :: r)).bind (fun n r => Rs.ok ((3 : Int), n) r) = _
      rw [int_hit (by omega) (by omega)]; rfl
    · show (int (⟨2, ⟨(Lib.itoa n).toArray⟩, 0⟩ :: r)).bind (fun n r => Rs.ok ((4 : Int), n) r) = _
      rw [int_hit (by omega) (by omega)]; rfl
end Go.Proofs.YtbahfelnbofjjaaGreatDoor.ch

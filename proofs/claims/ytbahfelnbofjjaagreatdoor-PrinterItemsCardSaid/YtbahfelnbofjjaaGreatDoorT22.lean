/-
  The reference's Form; The reference's Shape.
-/
import Derived.Test.YtbahfelnbofjjaaGreatDoorT03
import Derived.Test.YtbahfelnbofjjaaGreatDoorT08
import Derived.Test.YtbahfelnbofjjaaGreatDoorT21
set_option maxRecDepth 100000
set_option maxHeartbeats 16000000
namespace Go.Proofs.YtbahfelnbofjjaaGreatDoor.ch
open Go.RowKit dec
theorem rform_step (n : Nat) (IH : ∀ (i : Bool) (x : Ex) (ua aa : Option Addr) (uc ac : Nat) (w : World), x.ar.sz < n → x.szs → Ec w x ua uc aa ac → Calls Tryz.prog 65 #[.agg (exC x.h x.ar.len ua uc aa ac), .bool i] w (Bl (fmE i x) w))
  (i : Bool) (x : Ex) (ua aa : Option Addr) (uc ac : Nat) (w : World) (hz : x.ar.sz = n) (hsx : x.szs) (hA : Ec w x ua uc aa ac) : Calls Tryz.prog 65 #[.agg (exC x.h x.ar.len ua uc aa ac), .bool i] w (Bl (fmE i x) w) := by
 have bb := balloc (b0 w) (.cells (exC x.h x.ar.len ua uc aa ac) 29)
 have B0 := Lib.hid bb
 have G := Lib.hid (Blk.new w 29 (exC x.h x.ar.len ua uc aa ac))
 have HA := Lib.hid (hA.keeps bb)
 have IH' := Lib.hid IH
 have HZ := Lib.hid hz
 have HS := Lib.hid hsx
 have CN := Lib.hid (fun (W : World) (S : Ec W x ua uc aa ac) => rnode_any i x.h x.ar.len ua aa uc ac W hsx.h.vs S.us)
 have hmax := Lib.hid (show x.ar.len ≤ 9223372036854775807 from by have := hA.ar.hcap; have := hA.ar.hmax; omega)
 have hE := Lib.hid (fm_eq i x)
 have hD := Lib.hid (nod_is i x.h x.ar.len (x.ar.nth 0).h)
 clear bb hA IH hz hsx
 go_enter Tryz.func65, Tryz.ntmps65
 go_upto_region 1 with fail
 generalize hw0 : (w.alloc (.cells (exC x.h x.ar.len ua uc aa ac) 29)) = w0 at *
 generalize hg2 : w.heap.size = g2 at G ⊢
 clear hw0 hg2
 go_wp2_with (first | (refine arm_loadT infX Tryz.underlying29 rfl (.tmp 2) rfl rfl _ _ _ rfl G.out rfl ?_))
 refine (CN.out _ HA.out).mono ?_
 rintro e w1 ⟨rfl, b1⟩
 have B1 := Lib.hid (bnext B0.out b1)
 replace G := Lib.hid (G.out.keeps b1)
 replace HA := Lib.hid (HA.out.keeps b1)
 clear b1
 clear CN
 have c0 := G.out.cell 0
 have c11 := G.out.cell 11
 simp only [exC, List.getElem?_toArray, List.getElem?_cons_zero, List.getElem?_cons_succ] at c0 c11
 have hk9 : i = true → rnoR i x.h = true → x.h.k ≠ 5 := fun e h k => by rw [e] at h; unfold rnoR at h; simp [k] at h
 replace hk9 := Lib.hid hk9
 have h52 := Lib.hid (show x.h.k = 5 → arN x.h.k = 2 from fun e => by rw [e]; rfl)
 generalize hr : rnoR i x.h = r at *
 generalize hm : arN x.h.k = m at *
 clear hr hm
 cases r
 ·go_wp2_with fail
  go_ret
  exact bl_of (by rw [hE.out, ← hD.out]; rfl) B1.out
 ·by_cases hn : (x.ar.len : Int) = m
  ·have q1 : ((x.ar.len : Int) != m) = false := by simp [hn]
   have hF : fmE i x = (cntR x.h (truH (x.ar.nth 0).h) && fmA (i || decide (x.h.k = 5)) x.ar) := by rw [hE.out, ← hD.out, decide_eq_true hn]; rfl
   replace hF := Lib.hid hF
   subst hn
   clear hE hD
   cases i
   ·by_cases hk : x.h.k = 5
    ·have hF2 : fmE false x = ((!decide (x.h.op = ⟨#[99, 111, 117, 110, 116]⟩) || truH (x.ar.nth 0).h) && fmA true x.ar) := by rw [hF.out]; unfold cntR; rw [decide_eq_true hk]; rfl
     have qk := in_is hk
     have qk2 : (x.h.k != 5) = false := by simp [hk]
     have hl2 := Lib.hid (h52.out hk)
     replace hF2 := Lib.hid hF2
     replace hk := Lib.hid hk
     clear hF
     go_wp2_with fail
     go_loopw [7] (fun vi wr => ∃ j : Nat, vi = .int .i64 (j : Nat) ∧ Hid (j ≤ x.ar.len) ∧ Hid (fmA true x.ar = fmA true (x.ar.drop j)) ∧ Hid (Below w1.heap.size w1 wr)) (fun vi _ => x.ar.len - (intOf vi).toNat)
     case atStart => exact ⟨0, rfl, Lib.hid (Nat.zero_le _), Lib.hid (by rw [drop_zero]), Lib.hid (b0 w1)⟩
     case round =>
      obtain ⟨j, rfl, hj, hR, hb⟩ := hrel
      have Bw := Lib.hid (bnext B1.out hb.out)
      replace G := Lib.hid (G.out.keeps hb.out)
      replace HA := Lib.hid (HA.out.keeps hb.out)
      by_cases hlt : j < x.ar.len
      ·have q1 : decide ((j : Int) < (x.ar.len : Int)) = true := decide_eq_true (by omega)
       have i1 : (j : Int) < (x.ar.len : Int) := by omega
       have f4 := Lib.hid (next_at (j := j) (by have := hmax.out; omega))
       obtain ⟨bk, off, va, wa, vc, wc2, rfl, R1, E1⟩ := HA.out.ar.at hlt
       replace R1 := Lib.hid R1
       replace E1 := Lib.hid E1
       have hR2 := Lib.hid (hR.out.trans (fmA_at hlt true))
       have hsz := Lib.hid (nth_sz x.ar j hlt)
       have hys := Lib.hid (nth_szs x.ar j HS.out.ar)
       have hlt2 := Lib.hid hlt
       clear HA hj
       generalize hy : x.ar.nth j = y at *
       clear hy
       go_upto_region 7 with fail
       go_cut [40] from 28 to 40 (fun v wx => v = .bool (!fmE true y) ∧ Hid (Below wr.heap.size wr wx))
       case first =>
        refine wp_region_held_drew (S := fun w' => Below wr.heap.size wr w') (by kernel_rfl) (b0 wr).drew (fun hH => ?_)
        refine held_take (i := 0) (d := 28) (v := ?_) rfl (by kernel_rfl) (by kernel_rfl) (by kernel_rfl) rfl (fun _ _ _ h => h) rfl hH (fun w' hS => ?_) ?_
        rotate_left
        ·go_simp; first | done | with_reducible rfl
        simp only [List.set_cons_zero, List.set_cons_succ]
        refine held_take (i := 1) (d := 29) (v := ?_) rfl (by kernel_rfl) (by kernel_rfl) (by kernel_rfl) rfl (fun _ _ _ h => h) rfl hH (fun w' hS => ?_) ?_
        rotate_left
        ·have m11 := (G.out.keeps hS).cell 11; simp only [exC, List.getElem?_toArray, List.getElem?_cons_zero, List.getElem?_cons_succ] at m11; go_simp; first | done | with_reducible rfl
        simp only [List.set_cons_zero, List.set_cons_succ]
        refine held_take (i := 2) (d := 30) (v := ?_) rfl (by kernel_rfl) (by kernel_rfl) (by kernel_rfl) rfl (fun _ _ _ h => h) rfl hH (fun w' hS => ?_) ?_
        rotate_left
        ·go_simp; first | done | with_reducible rfl
        simp only [List.set_cons_zero, List.set_cons_succ]
        refine held_take (i := 3) (d := 31) (v := ?_) rfl (by kernel_rfl) (by kernel_rfl) (by kernel_rfl) rfl (fun _ _ _ h => h) rfl hH (fun w' hS => ?_) ?_
        rotate_left
        ·go_simp; first | done | with_reducible rfl
        simp only [List.set_cons_zero, List.set_cons_succ]
        refine held_take (i := 4) (d := 32) (v := .agg (exC y.h y.ar.len va wa vc wc2)) rfl (by kernel_rfl) (by kernel_rfl) (by kernel_rfl) rfl (fun _ _ _ h => h) rfl hH (fun w' hS => yield_loadM infX Tryz.underlying29 rfl (.tmp 31) rfl bk (off + j * 12) (exC y.h y.ar.len va wa vc wc2) rfl (range_keeps R1.out hS) rfl) ?_
        simp only [List.set_cons_zero, List.set_cons_succ]
        refine held_take (i := 5) (d := 33) (v := ?_) rfl (by kernel_rfl) (by kernel_rfl) (by kernel_rfl) rfl (fun _ _ _ h => h) rfl hH (fun w' hS => ?_) ?_
        rotate_left
        ·go_simp; first | done | with_reducible rfl
        simp only [List.set_cons_zero, List.set_cons_succ]
        refine held_take (i := 6) (d := 34) (v := ?_) rfl (by kernel_rfl) (by kernel_rfl) (by kernel_rfl) rfl (fun _ _ _ h => h) rfl hH (fun w' hS => ?_) ?_
        rotate_left
        ·go_simp; first | done | with_reducible rfl
        simp only [List.set_cons_zero, List.set_cons_succ]
        generalize wr.drew = yy at *
        refine held_take (i := 7) (d := 35) (v := ?_) rfl (by kernel_rfl) (by kernel_rfl) (by kernel_rfl) rfl (fun _ _ _ h => h) rfl hH (fun w' hS => ?_) ?_
        rotate_left
        ·go_simp; first | done | with_reducible rfl
        simp only [List.set_cons_zero, List.set_cons_succ]
        refine held_take (i := 8) (d := 36) (v := ?_) rfl (by kernel_rfl) (by kernel_rfl) (by kernel_rfl) rfl (fun _ _ _ h => h) rfl hH (fun w' hS => ?_) ?_
        rotate_left
        ·have m0 := (G.out.keeps hS).cell 0; simp only [exC, List.getElem?_toArray, List.getElem?_cons_zero] at m0; go_simp; first | done | with_reducible rfl
        simp only [List.set_cons_zero, List.set_cons_succ]
        refine held_take (i := 9) (d := 37) (v := ?_) rfl (by kernel_rfl) (by kernel_rfl) (by kernel_rfl) rfl (fun _ _ _ h => h) rfl hH (fun w' hS => ?_) ?_
        rotate_left
        ·go_simp; first | done | with_reducible rfl
        simp only [List.set_cons_zero, List.set_cons_succ]
        refine held_take (i := 10) (d := 38) (v := ?_) rfl (by kernel_rfl) (by kernel_rfl) (by kernel_rfl) rfl (fun _ _ _ h => h) rfl hH (fun w' hS => ?_) ?_
        rotate_left
        ·go_simp; first | done | with_reducible rfl
        simp only [List.set_cons_zero, List.set_cons_succ]
        refine held_only (i := 11) rfl (by kernel_rfl) rfl (fun K hK => ?_)
        go_simp
        refine (IH'.out true y va vc wa wc2 _ (by have := hsz.out; have := HZ.out; omega) hys.out (E1.out.keeps hH)).mono ?_
        rintro e y71 ⟨rfl, b71⟩
        skip
        refine hK.out _ _ (bnext hH b71) (fun hH => ?_)
        clear hK K
        clear b71
        refine held_take (i := 12) (d := 40) (v := ?_) rfl (by kernel_rfl) (by kernel_rfl) (by kernel_rfl) rfl (fun _ _ _ h => h) rfl hH (fun w' hS => ?_) ?_
        rotate_left
        ·go_simp; first | done | with_reducible rfl
        simp only [List.set_cons_zero, List.set_cons_succ]
        refine wpAnyH_done (by kernel_rfl) ?_ _
        go_wp2_with fail
        go_meet
        case rel => exact ⟨rfl, Lib.hid hH⟩
       case rest =>
        obtain ⟨rfl, BW⟩ := hcut
        have Bx := Lib.hid (bnext Bw.out BW.out)
        have hb6 := Lib.hid (bnext hb.out BW.out)
        clear BW
        generalize fmE true y = fy at *
        cases fy
        ·go_wp2_with fail
         go_ret
         exact bl_of (by rw [hF2.out, hR2.out, Bool.false_and, Bool.and_false]) Bx.out
        ·go_wp2_with fail
         exact ⟨⟨j + 1, congrArg (Value.int .i64) f4.out, hlt2, Lib.hid (hR2.out.trans (Bool.true_and _)), hb6⟩, less_at hlt2.out f4.out⟩
      ·have q1 : decide ((j : Int) < (x.ar.len : Int)) = false := decide_eq_false (by omega)
       have hT := Lib.hid (show fmA true x.ar = true from by rw [hR.out, drop_end _ _ (by omega)]; rfl)
       clear hR
       go_upto_region 9 with fail
       go_cut [4] from 41 to 56 (fun v wx => v = .bool (fmE false x) ∧ Hid (Below wr.heap.size wr wx))
       case first =>
        refine wp_region_held_drew (S := fun w' => Below wr.heap.size wr w') (by kernel_rfl) (b0 wr).drew (fun hH => ?_)
        refine held_take (i := 0) (d := 41) (v := ?_) rfl (by kernel_rfl) (by kernel_rfl) (by kernel_rfl) rfl (fun _ _ _ h => h) rfl hH (fun w' hS => ?_) ?_
        rotate_left
        ·go_simp; first | done | with_reducible rfl
        simp only [List.set_cons_zero, List.set_cons_succ]
        refine held_take (i := 1) (d := 42) (v := ?_) rfl (by kernel_rfl) (by kernel_rfl) (by kernel_rfl) rfl (fun _ _ _ h => h) rfl hH (fun w' hS => ?_) ?_
        rotate_left
        ·have m0 := (G.out.keeps hS).cell 0; simp only [exC, List.getElem?_toArray, List.getElem?_cons_zero] at m0; go_simp; first | done | with_reducible rfl
        simp only [List.set_cons_zero, List.set_cons_succ]
        refine held_take (i := 2) (d := 43) (v := ?_) rfl (by kernel_rfl) (by kernel_rfl) (by kernel_rfl) rfl (fun _ _ _ h => h) rfl hH (fun w' hS => ?_) ?_
        rotate_left
        ·go_simp; first | done | with_reducible rfl
        simp only [List.set_cons_zero, List.set_cons_succ]
        refine held_take (i := 3) (d := 44) (v := ?_) rfl (by kernel_rfl) (by kernel_rfl) (by kernel_rfl) rfl (fun _ _ _ h => h) rfl hH (fun w' hS => ?_) ?_
        rotate_left
        ·go_simp; first | done | with_reducible rfl
        simp only [List.set_cons_zero, List.set_cons_succ]
        generalize wr.drew = yy at *
        by_cases hc : x.h.op = ⟨#[99, 111, 117, 110, 116]⟩
        ·have qs : (x.h.op.toList == [99, 111, 117, 110, 116]) = true := by rw [eqL]; exact decide_eq_true hc
         have qn : (!x.h.op.toList == [99, 111, 117, 110, 116]) = false := by rw [qs]; rfl
         have qc := Lib.hid (decide_eq_true hc)
         clear hc
         have h0l : 0 < x.ar.len := by have := hl2.out; omega
         obtain ⟨bk, off, va, wa, vc, wc2, rfl, R1, E1⟩ := HA.out.ar.at h0l
         rw [Nat.zero_mul, Nat.add_zero] at R1
         replace R1 := Lib.hid R1
         replace E1 := Lib.hid E1
         have hy0 := fmA_nth x.ar true 0 hT.out h0l
         rw [fm_eq, Bool.and_eq_true] at hy0
         have ht := Lib.hid (tru_is hy0.1)
         clear hy0
         generalize x.ar.nth 0 = y at *
         refine held_take (i := 4) (d := 45) (v := ?_) rfl (by kernel_rfl) (by kernel_rfl) (by kernel_rfl) rfl (fun _ _ _ h => h) rfl hH (fun w' hS => ?_) ?_
         rotate_left
         ·go_simp; first | done | with_reducible rfl
         simp only [List.set_cons_zero, List.set_cons_succ]
         refine held_take (i := 5) (d := 46) (v := ?_) rfl (by kernel_rfl) (by kernel_rfl) (by kernel_rfl) rfl (fun _ _ _ h => h) rfl hH (fun w' hS => ?_) ?_
         rotate_left
         ·have m1 := (G.out.keeps hS).cell 1; simp only [exC, List.getElem?_toArray, List.getElem?_cons_zero, List.getElem?_cons_succ] at m1; go_simp; first | done | with_reducible rfl
         simp only [List.set_cons_zero, List.set_cons_succ]
         refine held_take (i := 6) (d := 47) (v := ?_) rfl (by kernel_rfl) (by kernel_rfl) (by kernel_rfl) rfl (fun _ _ _ h => h) rfl hH (fun w' hS => ?_) ?_
         rotate_left
         ·go_simp; first | done | with_reducible rfl
         simp only [List.set_cons_zero, List.set_cons_succ]
         refine held_take (i := 7) (d := 48) (v := ?_) rfl (by kernel_rfl) (by kernel_rfl) (by kernel_rfl) rfl (fun _ _ _ h => h) rfl hH (fun w' hS => ?_) ?_
         rotate_left
         ·go_simp; first | done | with_reducible rfl
         simp only [List.set_cons_zero, List.set_cons_succ]
         refine held_take (i := 8) (d := 49) (v := ?_) rfl (by kernel_rfl) (by kernel_rfl) (by kernel_rfl) rfl (fun _ _ _ h => h) rfl hH (fun w' hS => ?_) ?_
         rotate_left
         ·go_simp; first | done | with_reducible rfl
         simp only [List.set_cons_zero, List.set_cons_succ]
         refine held_take (i := 9) (d := 50) (v := ?_) rfl (by kernel_rfl) (by kernel_rfl) (by kernel_rfl) rfl (fun _ _ _ h => h) rfl hH (fun w' hS => ?_) ?_
         rotate_left
         ·go_simp; first | done | with_reducible rfl
         simp only [List.set_cons_zero, List.set_cons_succ]
         refine held_take (i := 10) (d := 51) (v := ?_) rfl (by kernel_rfl) (by kernel_rfl) (by kernel_rfl) rfl (fun _ _ _ h => h) rfl hH (fun w' hS => ?_) ?_
         rotate_left
         ·have m11 := (G.out.keeps hS).cell 11; simp only [exC, List.getElem?_toArray, List.getElem?_cons_zero, List.getElem?_cons_succ] at m11; go_simp; first | done | with_reducible rfl
         simp only [List.set_cons_zero, List.set_cons_succ]
         refine held_take (i := 11) (d := 52) (v := ?_) rfl (by kernel_rfl) (by kernel_rfl) (by kernel_rfl) rfl (fun _ _ _ h => h) rfl hH (fun w' hS => ?_) ?_
         rotate_left
         ·go_simp; first | done | with_reducible rfl
         simp only [List.set_cons_zero, List.set_cons_succ]
         refine held_take (i := 12) (d := 53) (v := .agg (exC y.h y.ar.len va wa vc wc2)) rfl (by kernel_rfl) (by kernel_rfl) (by kernel_rfl) rfl (fun _ _ _ h => h) rfl hH (fun w' hS => yield_loadM infX Tryz.underlying29 rfl (.tmp 52) rfl bk off (exC y.h y.ar.len va wa vc wc2) rfl (range_keeps R1.out hS) rfl) ?_
         simp only [List.set_cons_zero, List.set_cons_succ]
         refine held_only (i := 13) rfl (by kernel_rfl) rfl (fun K hK => ?_)
         go_simp
         refine (true_e _).mono ?_
         rintro e y91 ⟨rfl, b91⟩
         skip
         refine hK.out _ _ (bnext hH b91) (fun hH => ?_)
         clear hK K
         clear b91
         refine held_only (i := 14) rfl (by kernel_rfl) rfl (fun K hK => ?_)
         go_simp
         refine (sameTrue_any y.h y.ar.len va vc wa wc2 _ (E1.out.us.keeps hH)).mono ?_
         rintro e y92 ⟨rfl, b92⟩
         skip
         refine hK.out _ _ (bnext hH b92) (fun hH => ?_)
         clear hK K
         clear b92
         refine held_take (i := 15) (d := 56) (v := ?_) rfl (by kernel_rfl) (by kernel_rfl) (by kernel_rfl) rfl (fun _ _ _ h => h) rfl hH (fun w' hS => ?_) ?_
         rotate_left
         ·go_simp; first | done | with_reducible rfl
         simp only [List.set_cons_zero, List.set_cons_succ]
         refine held_take (i := 16) (d := 4) (v := ?_) rfl (by kernel_rfl) (by kernel_rfl) (by kernel_rfl) rfl (fun _ _ _ h => h) rfl hH (fun w' hS => ?_) ?_
         rotate_left
         ·go_simp; first | done | with_reducible rfl
         simp only [List.set_cons_zero, List.set_cons_succ]
         refine wpAnyH_done (by kernel_rfl) ?_ _
         go_wp2_with fail
         go_meet
         case rel => exact ⟨congrArg Value.bool (by rw [hF2.out, hT.out, qc.out, ht.out]; simp), Lib.hid hH⟩
        ·have qs : (x.h.op.toList == [99, 111, 117, 110, 116]) = false := by rw [eqL]; exact decide_eq_false hc
         have qn : (!x.h.op.toList == [99, 111, 117, 110, 116]) = true := by rw [qs]; rfl
         have qc := Lib.hid (decide_eq_false hc)
         clear hc
         refine held_take (i := 4) (d := 45) (v := ?_) rfl (by kernel_rfl) (by kernel_rfl) (by kernel_rfl) rfl (fun _ _ _ h => h) rfl hH (fun w' hS => ?_) ?_
         rotate_left
         ·go_simp; first | done | with_reducible rfl
         simp only [List.set_cons_zero, List.set_cons_succ]
         refine held_take (i := 5) (d := 46) (v := ?_) rfl (by kernel_rfl) (by kernel_rfl) (by kernel_rfl) rfl (fun _ _ _ h => h) rfl hH (fun w' hS => ?_) ?_
         rotate_left
         ·have m1 := (G.out.keeps hS).cell 1; simp only [exC, List.getElem?_toArray, List.getElem?_cons_zero, List.getElem?_cons_succ] at m1; go_simp; first | done | with_reducible rfl
         simp only [List.set_cons_zero, List.set_cons_succ]
         refine held_take (i := 6) (d := 47) (v := ?_) rfl (by kernel_rfl) (by kernel_rfl) (by kernel_rfl) rfl (fun _ _ _ h => h) rfl hH (fun w' hS => ?_) ?_
         rotate_left
         ·go_simp; first | done | with_reducible rfl
         simp only [List.set_cons_zero, List.set_cons_succ]
         refine held_take (i := 7) (d := 48) (v := ?_) rfl (by kernel_rfl) (by kernel_rfl) (by kernel_rfl) rfl (fun _ _ _ h => h) rfl hH (fun w' hS => ?_) ?_
         rotate_left
         ·go_simp; first | done | with_reducible rfl
         simp only [List.set_cons_zero, List.set_cons_succ]
         refine held_take (i := 8) (d := 49) (v := ?_) rfl (by kernel_rfl) (by kernel_rfl) (by kernel_rfl) rfl (fun _ _ _ h => h) rfl hH (fun w' hS => ?_) ?_
         rotate_left
         ·go_simp; first | done | with_reducible rfl
         simp only [List.set_cons_zero, List.set_cons_succ]
         refine off_take (i := 9) (d := 50) rfl (by kernel_rfl) (by kernel_rfl) (by kernel_rfl) rfl (fun _ _ _ h => h) rfl hH ?_
         simp only [List.set_cons_zero, List.set_cons_succ]
         refine off_take (i := 10) (d := 51) rfl (by kernel_rfl) (by kernel_rfl) (by kernel_rfl) rfl (fun _ _ _ h => h) rfl hH ?_
         simp only [List.set_cons_zero, List.set_cons_succ]
         refine off_take (i := 11) (d := 52) rfl (by kernel_rfl) (by kernel_rfl) (by kernel_rfl) rfl (fun _ _ _ h => h) rfl hH ?_
         simp only [List.set_cons_zero, List.set_cons_succ]
         refine off_take (i := 12) (d := 53) rfl (by kernel_rfl) (by kernel_rfl) (by kernel_rfl) rfl (fun _ _ _ h => h) rfl hH ?_
         simp only [List.set_cons_zero, List.set_cons_succ]
         refine off_one (i := 13) rfl (by kernel_rfl) rfl hH ?_
         go_simp
         refine off_one (i := 14) rfl (by kernel_rfl) rfl hH ?_
         go_simp
         refine held_take (i := 15) (d := 56) (v := ?_) rfl (by kernel_rfl) (by kernel_rfl) (by kernel_rfl) rfl (fun _ _ _ h => h) rfl hH (fun w' hS => ?_) ?_
         rotate_left
         ·go_simp; first | done | with_reducible rfl
         simp only [List.set_cons_zero, List.set_cons_succ]
         refine held_take (i := 16) (d := 4) (v := ?_) rfl (by kernel_rfl) (by kernel_rfl) (by kernel_rfl) rfl (fun _ _ _ h => h) rfl hH (fun w' hS => ?_) ?_
         rotate_left
         ·go_simp; first | done | with_reducible rfl
         simp only [List.set_cons_zero, List.set_cons_succ]
         refine wpAnyH_done (by kernel_rfl) ?_ _
         go_wp2_with fail
         go_meet
         case rel => exact ⟨congrArg Value.bool (by rw [hF2.out, hT.out, qc.out]; rfl), Lib.hid hH⟩
       case rest =>
        obtain ⟨rfl, BW⟩ := hcut
        have Bx := Lib.hid (bnext Bw.out BW.out)
        go_wp2_with fail
        go_ret
        exact bl_of rfl Bx.out
    ·have hF2 : fmE false x = fmA false x.ar := by rw [hF.out]; unfold cntR; rw [decide_eq_false hk]; rfl
     have qk := in_ne hk
     have qk2 : (x.h.k != 5) = true := by simp [hk]
     replace hF2 := Lib.hid hF2
     replace hk := Lib.hid hk
     clear hF
     go_wp2_with fail
     go_loopw [7] (fun vi wr => ∃ j : Nat, vi = .int .i64 (j : Nat) ∧ Hid (j ≤ x.ar.len) ∧ Hid (fmA false x.ar = fmA false (x.ar.drop j)) ∧ Hid (Below w1.heap.size w1 wr)) (fun vi _ => x.ar.len - (intOf vi).toNat)
     case atStart => exact ⟨0, rfl, Lib.hid (Nat.zero_le _), Lib.hid (by rw [drop_zero]), Lib.hid (b0 w1)⟩
     case round =>
      obtain ⟨j, rfl, hj, hR, hb⟩ := hrel
      have Bw := Lib.hid (bnext B1.out hb.out)
      replace G := Lib.hid (G.out.keeps hb.out)
      replace HA := Lib.hid (HA.out.keeps hb.out)
      by_cases hlt : j < x.ar.len
      ·have q1 : decide ((j : Int) < (x.ar.len : Int)) = true := decide_eq_true (by omega)
       have i1 : (j : Int) < (x.ar.len : Int) := by omega
       have f4 := Lib.hid (next_at (j := j) (by have := hmax.out; omega))
       obtain ⟨bk, off, va, wa, vc, wc2, rfl, R1, E1⟩ := HA.out.ar.at hlt
       replace R1 := Lib.hid R1
       replace E1 := Lib.hid E1
       have hR2 := Lib.hid (hR.out.trans (fmA_at hlt false))
       have hsz := Lib.hid (nth_sz x.ar j hlt)
       have hys := Lib.hid (nth_szs x.ar j HS.out.ar)
       have hlt2 := Lib.hid hlt
       clear HA hj
       generalize hy : x.ar.nth j = y at *
       clear hy
       go_upto_region 7 with fail
       go_cut [40] from 28 to 40 (fun v wx => v = .bool (!fmE false y) ∧ Hid (Below wr.heap.size wr wx))
       case first =>
        refine wp_region_held_drew (S := fun w' => Below wr.heap.size wr w') (by kernel_rfl) (b0 wr).drew (fun hH => ?_)
        refine held_take (i := 0) (d := 28) (v := ?_) rfl (by kernel_rfl) (by kernel_rfl) (by kernel_rfl) rfl (fun _ _ _ h => h) rfl hH (fun w' hS => ?_) ?_
        rotate_left
        ·go_simp; first | done | with_reducible rfl
        simp only [List.set_cons_zero, List.set_cons_succ]
        refine held_take (i := 1) (d := 29) (v := ?_) rfl (by kernel_rfl) (by kernel_rfl) (by kernel_rfl) rfl (fun _ _ _ h => h) rfl hH (fun w' hS => ?_) ?_
        rotate_left
        ·have m11 := (G.out.keeps hS).cell 11; simp only [exC, List.getElem?_toArray, List.getElem?_cons_zero, List.getElem?_cons_succ] at m11; go_simp; first | done | with_reducible rfl
        simp only [List.set_cons_zero, List.set_cons_succ]
        refine held_take (i := 2) (d := 30) (v := ?_) rfl (by kernel_rfl) (by kernel_rfl) (by kernel_rfl) rfl (fun _ _ _ h => h) rfl hH (fun w' hS => ?_) ?_
        rotate_left
        ·go_simp; first | done | with_reducible rfl
        simp only [List.set_cons_zero, List.set_cons_succ]
        refine held_take (i := 3) (d := 31) (v := ?_) rfl (by kernel_rfl) (by kernel_rfl) (by kernel_rfl) rfl (fun _ _ _ h => h) rfl hH (fun w' hS => ?_) ?_
        rotate_left
        ·go_simp; first | done | with_reducible rfl
        simp only [List.set_cons_zero, List.set_cons_succ]
        refine held_take (i := 4) (d := 32) (v := .agg (exC y.h y.ar.len va wa vc wc2)) rfl (by kernel_rfl) (by kernel_rfl) (by kernel_rfl) rfl (fun _ _ _ h => h) rfl hH (fun w' hS => yield_loadM infX Tryz.underlying29 rfl (.tmp 31) rfl bk (off + j * 12) (exC y.h y.ar.len va wa vc wc2) rfl (range_keeps R1.out hS) rfl) ?_
        simp only [List.set_cons_zero, List.set_cons_succ]
        refine held_take (i := 5) (d := 33) (v := ?_) rfl (by kernel_rfl) (by kernel_rfl) (by kernel_rfl) rfl (fun _ _ _ h => h) rfl hH (fun w' hS => ?_) ?_
        rotate_left
        ·go_simp; first | done | with_reducible rfl
        simp only [List.set_cons_zero, List.set_cons_succ]
        refine held_take (i := 6) (d := 34) (v := ?_) rfl (by kernel_rfl) (by kernel_rfl) (by kernel_rfl) rfl (fun _ _ _ h => h) rfl hH (fun w' hS => ?_) ?_
        rotate_left
        ·go_simp; first | done | with_reducible rfl
        simp only [List.set_cons_zero, List.set_cons_succ]
        generalize wr.drew = yy at *
        refine held_take (i := 7) (d := 35) (v := ?_) rfl (by kernel_rfl) (by kernel_rfl) (by kernel_rfl) rfl (fun _ _ _ h => h) rfl hH (fun w' hS => ?_) ?_
        rotate_left
        ·go_simp; first | done | with_reducible rfl
        simp only [List.set_cons_zero, List.set_cons_succ]
        refine held_take (i := 8) (d := 36) (v := ?_) rfl (by kernel_rfl) (by kernel_rfl) (by kernel_rfl) rfl (fun _ _ _ h => h) rfl hH (fun w' hS => ?_) ?_
        rotate_left
        ·have m0 := (G.out.keeps hS).cell 0; simp only [exC, List.getElem?_toArray, List.getElem?_cons_zero] at m0; go_simp; first | done | with_reducible rfl
        simp only [List.set_cons_zero, List.set_cons_succ]
        refine held_take (i := 9) (d := 37) (v := ?_) rfl (by kernel_rfl) (by kernel_rfl) (by kernel_rfl) rfl (fun _ _ _ h => h) rfl hH (fun w' hS => ?_) ?_
        rotate_left
        ·go_simp; first | done | with_reducible rfl
        simp only [List.set_cons_zero, List.set_cons_succ]
        refine held_take (i := 10) (d := 38) (v := ?_) rfl (by kernel_rfl) (by kernel_rfl) (by kernel_rfl) rfl (fun _ _ _ h => h) rfl hH (fun w' hS => ?_) ?_
        rotate_left
        ·go_simp; first | done | with_reducible rfl
        simp only [List.set_cons_zero, List.set_cons_succ]
        refine held_only (i := 11) rfl (by kernel_rfl) rfl (fun K hK => ?_)
        go_simp
        refine (IH'.out false y va vc wa wc2 _ (by have := hsz.out; have := HZ.out; omega) hys.out (E1.out.keeps hH)).mono ?_
        rintro e y71 ⟨rfl, b71⟩
        skip
        refine hK.out _ _ (bnext hH b71) (fun hH => ?_)
        clear hK K
        clear b71
        refine held_take (i := 12) (d := 40) (v := ?_) rfl (by kernel_rfl) (by kernel_rfl) (by kernel_rfl) rfl (fun _ _ _ h => h) rfl hH (fun w' hS => ?_) ?_
        rotate_left
        ·go_simp; first | done | with_reducible rfl
        simp only [List.set_cons_zero, List.set_cons_succ]
        refine wpAnyH_done (by kernel_rfl) ?_ _
        go_wp2_with fail
        go_meet
        case rel => exact ⟨rfl, Lib.hid hH⟩
       case rest =>
        obtain ⟨rfl, BW⟩ := hcut
        have Bx := Lib.hid (bnext Bw.out BW.out)
        have hb6 := Lib.hid (bnext hb.out BW.out)
        clear BW
        generalize fmE false y = fy at *
        cases fy
        ·go_wp2_with fail
         go_ret
         exact bl_of (by rw [hF2.out, hR2.out, Bool.false_and]) Bx.out
        ·go_wp2_with fail
         exact ⟨⟨j + 1, congrArg (Value.int .i64) f4.out, hlt2, Lib.hid (hR2.out.trans (Bool.true_and _)), hb6⟩, less_at hlt2.out f4.out⟩
      ·have q1 : decide ((j : Int) < (x.ar.len : Int)) = false := decide_eq_false (by omega)
       have hT := Lib.hid (show fmA false x.ar = true from by rw [hR.out, drop_end _ _ (by omega)]; rfl)
       clear hR
       go_upto_region 9 with fail
       go_cut [4] from 41 to 56 (fun v wx => v = .bool (fmE false x) ∧ Hid (Below wr.heap.size wr wx))
       case first =>
        refine wp_region_held_drew (S := fun w' => Below wr.heap.size wr w') (by kernel_rfl) (b0 wr).drew (fun hH => ?_)
        refine held_take (i := 0) (d := 41) (v := ?_) rfl (by kernel_rfl) (by kernel_rfl) (by kernel_rfl) rfl (fun _ _ _ h => h) rfl hH (fun w' hS => ?_) ?_
        rotate_left
        ·go_simp; first | done | with_reducible rfl
        simp only [List.set_cons_zero, List.set_cons_succ]
        refine held_take (i := 1) (d := 42) (v := ?_) rfl (by kernel_rfl) (by kernel_rfl) (by kernel_rfl) rfl (fun _ _ _ h => h) rfl hH (fun w' hS => ?_) ?_
        rotate_left
        ·have m0 := (G.out.keeps hS).cell 0; simp only [exC, List.getElem?_toArray, List.getElem?_cons_zero] at m0; go_simp; first | done | with_reducible rfl
        simp only [List.set_cons_zero, List.set_cons_succ]
        refine held_take (i := 2) (d := 43) (v := ?_) rfl (by kernel_rfl) (by kernel_rfl) (by kernel_rfl) rfl (fun _ _ _ h => h) rfl hH (fun w' hS => ?_) ?_
        rotate_left
        ·go_simp; first | done | with_reducible rfl
        simp only [List.set_cons_zero, List.set_cons_succ]
        refine held_take (i := 3) (d := 44) (v := ?_) rfl (by kernel_rfl) (by kernel_rfl) (by kernel_rfl) rfl (fun _ _ _ h => h) rfl hH (fun w' hS => ?_) ?_
        rotate_left
        ·go_simp; first | done | with_reducible rfl
        simp only [List.set_cons_zero, List.set_cons_succ]
        generalize wr.drew = yy at *
        refine off_take (i := 4) (d := 45) rfl (by kernel_rfl) (by kernel_rfl) (by kernel_rfl) rfl (fun _ _ _ h => h) rfl hH ?_
        simp only [List.set_cons_zero, List.set_cons_succ]
        refine off_take (i := 5) (d := 46) rfl (by kernel_rfl) (by kernel_rfl) (by kernel_rfl) rfl (fun _ _ _ h => h) rfl hH ?_
        simp only [List.set_cons_zero, List.set_cons_succ]
        refine off_take (i := 6) (d := 47) rfl (by kernel_rfl) (by kernel_rfl) (by kernel_rfl) rfl (fun _ _ _ h => h) rfl hH ?_
        simp only [List.set_cons_zero, List.set_cons_succ]
        refine held_take (i := 7) (d := 48) (v := ?_) rfl (by kernel_rfl) (by kernel_rfl) (by kernel_rfl) rfl (fun _ _ _ h => h) rfl hH (fun w' hS => ?_) ?_
        rotate_left
        ·go_simp; first | done | with_reducible rfl
        simp only [List.set_cons_zero, List.set_cons_succ]
        refine held_take (i := 8) (d := 49) (v := ?_) rfl (by kernel_rfl) (by kernel_rfl) (by kernel_rfl) rfl (fun _ _ _ h => h) rfl hH (fun w' hS => ?_) ?_
        rotate_left
        ·go_simp; first | done | with_reducible rfl
        simp only [List.set_cons_zero, List.set_cons_succ]
        refine off_take (i := 9) (d := 50) rfl (by kernel_rfl) (by kernel_rfl) (by kernel_rfl) rfl (fun _ _ _ h => h) rfl hH ?_
        simp only [List.set_cons_zero, List.set_cons_succ]
        refine off_take (i := 10) (d := 51) rfl (by kernel_rfl) (by kernel_rfl) (by kernel_rfl) rfl (fun _ _ _ h => h) rfl hH ?_
        simp only [List.set_cons_zero, List.set_cons_succ]
        refine off_take (i := 11) (d := 52) rfl (by kernel_rfl) (by kernel_rfl) (by kernel_rfl) rfl (fun _ _ _ h => h) rfl hH ?_
        simp only [List.set_cons_zero, List.set_cons_succ]
        refine off_take (i := 12) (d := 53) rfl (by kernel_rfl) (by kernel_rfl) (by kernel_rfl) rfl (fun _ _ _ h => h) rfl hH ?_
        simp only [List.set_cons_zero, List.set_cons_succ]
        refine off_one (i := 13) rfl (by kernel_rfl) rfl hH ?_
        go_simp
        refine off_one (i := 14) rfl (by kernel_rfl) rfl hH ?_
        go_simp
        refine held_take (i := 15) (d := 56) (v := ?_) rfl (by kernel_rfl) (by kernel_rfl) (by kernel_rfl) rfl (fun _ _ _ h => h) rfl hH (fun w' hS => ?_) ?_
        rotate_left
        ·go_simp; first | done | with_reducible rfl
        simp only [List.set_cons_zero, List.set_cons_succ]
        refine held_take (i := 16) (d := 4) (v := ?_) rfl (by kernel_rfl) (by kernel_rfl) (by kernel_rfl) rfl (fun _ _ _ h => h) rfl hH (fun w' hS => ?_) ?_
        rotate_left
        ·go_simp; first | done | with_reducible rfl
        simp only [List.set_cons_zero, List.set_cons_succ]
        refine wpAnyH_done (by kernel_rfl) ?_ _
        go_wp2_with fail
        go_meet
        case rel => exact ⟨congrArg Value.bool (by rw [hF2.out, hT.out]), Lib.hid hH⟩
       case rest =>
        obtain ⟨rfl, BW⟩ := hcut
        have Bx := Lib.hid (bnext Bw.out BW.out)
        go_wp2_with fail
        go_ret
        exact bl_of rfl Bx.out
   ·have hk := hk9.out rfl rfl
    have hF2 : fmE true x = fmA true x.ar := by rw [hF.out]; unfold cntR; rw [decide_eq_false hk]; rfl
    have qk := in_ne hk
    have qk2 : (x.h.k != 5) = true := by simp [hk]
    replace hF2 := Lib.hid hF2
    replace hk := Lib.hid hk
    clear hF
    go_wp2_with fail
    go_loopw [7] (fun vi wr => ∃ j : Nat, vi = .int .i64 (j : Nat) ∧ Hid (j ≤ x.ar.len) ∧ Hid (fmA true x.ar = fmA true (x.ar.drop j)) ∧ Hid (Below w1.heap.size w1 wr)) (fun vi _ => x.ar.len - (intOf vi).toNat)
    case atStart => exact ⟨0, rfl, Lib.hid (Nat.zero_le _), Lib.hid (by rw [drop_zero]), Lib.hid (b0 w1)⟩
    case round =>
     obtain ⟨j, rfl, hj, hR, hb⟩ := hrel
     have Bw := Lib.hid (bnext B1.out hb.out)
     replace G := Lib.hid (G.out.keeps hb.out)
     replace HA := Lib.hid (HA.out.keeps hb.out)
     by_cases hlt : j < x.ar.len
     ·have q1 : decide ((j : Int) < (x.ar.len : Int)) = true := decide_eq_true (by omega)
      have i1 : (j : Int) < (x.ar.len : Int) := by omega
      have f4 := Lib.hid (next_at (j := j) (by have := hmax.out; omega))
      obtain ⟨bk, off, va, wa, vc, wc2, rfl, R1, E1⟩ := HA.out.ar.at hlt
      replace R1 := Lib.hid R1
      replace E1 := Lib.hid E1
      have hR2 := Lib.hid (hR.out.trans (fmA_at hlt true))
      have hsz := Lib.hid (nth_sz x.ar j hlt)
      have hys := Lib.hid (nth_szs x.ar j HS.out.ar)
      have hlt2 := Lib.hid hlt
      clear HA hj
      generalize hy : x.ar.nth j = y at *
      clear hy
      go_upto_region 7 with fail
      go_cut [40] from 28 to 40 (fun v wx => v = .bool (!fmE true y) ∧ Hid (Below wr.heap.size wr wx))
      case first =>
       refine wp_region_held_drew (S := fun w' => Below wr.heap.size wr w') (by kernel_rfl) (b0 wr).drew (fun hH => ?_)
       refine held_take (i := 0) (d := 28) (v := ?_) rfl (by kernel_rfl) (by kernel_rfl) (by kernel_rfl) rfl (fun _ _ _ h => h) rfl hH (fun w' hS => ?_) ?_
       rotate_left
       ·go_simp; first | done | with_reducible rfl
       simp only [List.set_cons_zero, List.set_cons_succ]
       refine held_take (i := 1) (d := 29) (v := ?_) rfl (by kernel_rfl) (by kernel_rfl) (by kernel_rfl) rfl (fun _ _ _ h => h) rfl hH (fun w' hS => ?_) ?_
       rotate_left
       ·have m11 := (G.out.keeps hS).cell 11; simp only [exC, List.getElem?_toArray, List.getElem?_cons_zero, List.getElem?_cons_succ] at m11; go_simp; first | done | with_reducible rfl
       simp only [List.set_cons_zero, List.set_cons_succ]
       refine held_take (i := 2) (d := 30) (v := ?_) rfl (by kernel_rfl) (by kernel_rfl) (by kernel_rfl) rfl (fun _ _ _ h => h) rfl hH (fun w' hS => ?_) ?_
       rotate_left
       ·go_simp; first | done | with_reducible rfl
       simp only [List.set_cons_zero, List.set_cons_succ]
       refine held_take (i := 3) (d := 31) (v := ?_) rfl (by kernel_rfl) (by kernel_rfl) (by kernel_rfl) rfl (fun _ _ _ h => h) rfl hH (fun w' hS => ?_) ?_
       rotate_left
       ·go_simp; first | done | with_reducible rfl
       simp only [List.set_cons_zero, List.set_cons_succ]
       refine held_take (i := 4) (d := 32) (v := .agg (exC y.h y.ar.len va wa vc wc2)) rfl (by kernel_rfl) (by kernel_rfl) (by kernel_rfl) rfl (fun _ _ _ h => h) rfl hH (fun w' hS => yield_loadM infX Tryz.underlying29 rfl (.tmp 31) rfl bk (off + j * 12) (exC y.h y.ar.len va wa vc wc2) rfl (range_keeps R1.out hS) rfl) ?_
       simp only [List.set_cons_zero, List.set_cons_succ]
       refine held_take (i := 5) (d := 33) (v := ?_) rfl (by kernel_rfl) (by kernel_rfl) (by kernel_rfl) rfl (fun _ _ _ h => h) rfl hH (fun w' hS => ?_) ?_
       rotate_left
       ·go_simp; first | done | with_reducible rfl
       simp only [List.set_cons_zero, List.set_cons_succ]
       refine held_take (i := 6) (d := 34) (v := ?_) rfl (by kernel_rfl) (by kernel_rfl) (by kernel_rfl) rfl (fun _ _ _ h => h) rfl hH (fun w' hS => ?_) ?_
       rotate_left
       ·go_simp; first | done | with_reducible rfl
       simp only [List.set_cons_zero, List.set_cons_succ]
       generalize wr.drew = yy at *
       refine off_take (i := 7) (d := 35) rfl (by kernel_rfl) (by kernel_rfl) (by kernel_rfl) rfl (fun _ _ _ h => h) rfl hH ?_
       simp only [List.set_cons_zero, List.set_cons_succ]
       refine off_take (i := 8) (d := 36) rfl (by kernel_rfl) (by kernel_rfl) (by kernel_rfl) rfl (fun _ _ _ h => h) rfl hH ?_
       simp only [List.set_cons_zero, List.set_cons_succ]
       refine off_take (i := 9) (d := 37) rfl (by kernel_rfl) (by kernel_rfl) (by kernel_rfl) rfl (fun _ _ _ h => h) rfl hH ?_
       simp only [List.set_cons_zero, List.set_cons_succ]
       refine held_take (i := 10) (d := 38) (v := ?_) rfl (by kernel_rfl) (by kernel_rfl) (by kernel_rfl) rfl (fun _ _ _ h => h) rfl hH (fun w' hS => ?_) ?_
       rotate_left
       ·go_simp; first | done | with_reducible rfl
       simp only [List.set_cons_zero, List.set_cons_succ]
       refine held_only (i := 11) rfl (by kernel_rfl) rfl (fun K hK => ?_)
       go_simp
       refine (IH'.out true y va vc wa wc2 _ (by have := hsz.out; have := HZ.out; omega) hys.out (E1.out.keeps hH)).mono ?_
       rintro e y71 ⟨rfl, b71⟩
       skip
       refine hK.out _ _ (bnext hH b71) (fun hH => ?_)
       clear hK K
       clear b71
       refine held_take (i := 12) (d := 40) (v := ?_) rfl (by kernel_rfl) (by kernel_rfl) (by kernel_rfl) rfl (fun _ _ _ h => h) rfl hH (fun w' hS => ?_) ?_
       rotate_left
       ·go_simp; first | done | with_reducible rfl
       simp only [List.set_cons_zero, List.set_cons_succ]
       refine wpAnyH_done (by kernel_rfl) ?_ _
       go_wp2_with fail
       go_meet
       case rel => exact ⟨rfl, Lib.hid hH⟩
      case rest =>
       obtain ⟨rfl, BW⟩ := hcut
       have Bx := Lib.hid (bnext Bw.out BW.out)
       have hb6 := Lib.hid (bnext hb.out BW.out)
       clear BW
       generalize fmE true y = fy at *
       cases fy
       ·go_wp2_with fail
        go_ret
        exact bl_of (by rw [hF2.out, hR2.out, Bool.false_and]) Bx.out
       ·go_wp2_with fail
        exact ⟨⟨j + 1, congrArg (Value.int .i64) f4.out, hlt2, Lib.hid (hR2.out.trans (Bool.true_and _)), hb6⟩, less_at hlt2.out f4.out⟩
     ·have q1 : decide ((j : Int) < (x.ar.len : Int)) = false := decide_eq_false (by omega)
      have hT := Lib.hid (show fmA true x.ar = true from by rw [hR.out, drop_end _ _ (by omega)]; rfl)
      clear hR
      go_upto_region 9 with fail
      go_cut [4] from 41 to 56 (fun v wx => v = .bool (fmE true x) ∧ Hid (Below wr.heap.size wr wx))
      case first =>
       refine wp_region_held_drew (S := fun w' => Below wr.heap.size wr w') (by kernel_rfl) (b0 wr).drew (fun hH => ?_)
       refine held_take (i := 0) (d := 41) (v := ?_) rfl (by kernel_rfl) (by kernel_rfl) (by kernel_rfl) rfl (fun _ _ _ h => h) rfl hH (fun w' hS => ?_) ?_
       rotate_left
       ·go_simp; first | done | with_reducible rfl
       simp only [List.set_cons_zero, List.set_cons_succ]
       refine held_take (i := 1) (d := 42) (v := ?_) rfl (by kernel_rfl) (by kernel_rfl) (by kernel_rfl) rfl (fun _ _ _ h => h) rfl hH (fun w' hS => ?_) ?_
       rotate_left
       ·have m0 := (G.out.keeps hS).cell 0; simp only [exC, List.getElem?_toArray, List.getElem?_cons_zero] at m0; go_simp; first | done | with_reducible rfl
       simp only [List.set_cons_zero, List.set_cons_succ]
       refine held_take (i := 2) (d := 43) (v := ?_) rfl (by kernel_rfl) (by kernel_rfl) (by kernel_rfl) rfl (fun _ _ _ h => h) rfl hH (fun w' hS => ?_) ?_
       rotate_left
       ·go_simp; first | done | with_reducible rfl
       simp only [List.set_cons_zero, List.set_cons_succ]
       refine held_take (i := 3) (d := 44) (v := ?_) rfl (by kernel_rfl) (by kernel_rfl) (by kernel_rfl) rfl (fun _ _ _ h => h) rfl hH (fun w' hS => ?_) ?_
       rotate_left
       ·go_simp; first | done | with_reducible rfl
       simp only [List.set_cons_zero, List.set_cons_succ]
       generalize wr.drew = yy at *
       refine off_take (i := 4) (d := 45) rfl (by kernel_rfl) (by kernel_rfl) (by kernel_rfl) rfl (fun _ _ _ h => h) rfl hH ?_
       simp only [List.set_cons_zero, List.set_cons_succ]
       refine off_take (i := 5) (d := 46) rfl (by kernel_rfl) (by kernel_rfl) (by kernel_rfl) rfl (fun _ _ _ h => h) rfl hH ?_
       simp only [List.set_cons_zero, List.set_cons_succ]
       refine off_take (i := 6) (d := 47) rfl (by kernel_rfl) (by kernel_rfl) (by kernel_rfl) rfl (fun _ _ _ h => h) rfl hH ?_
       simp only [List.set_cons_zero, List.set_cons_succ]
       refine held_take (i := 7) (d := 48) (v := ?_) rfl (by kernel_rfl) (by kernel_rfl) (by kernel_rfl) rfl (fun _ _ _ h => h) rfl hH (fun w' hS => ?_) ?_
       rotate_left
       ·go_simp; first | done | with_reducible rfl
       simp only [List.set_cons_zero, List.set_cons_succ]
       refine held_take (i := 8) (d := 49) (v := ?_) rfl (by kernel_rfl) (by kernel_rfl) (by kernel_rfl) rfl (fun _ _ _ h => h) rfl hH (fun w' hS => ?_) ?_
       rotate_left
       ·go_simp; first | done | with_reducible rfl
       simp only [List.set_cons_zero, List.set_cons_succ]
       refine off_take (i := 9) (d := 50) rfl (by kernel_rfl) (by kernel_rfl) (by kernel_rfl) rfl (fun _ _ _ h => h) rfl hH ?_
       simp only [List.set_cons_zero, List.set_cons_succ]
       refine off_take (i := 10) (d := 51) rfl (by kernel_rfl) (by kernel_rfl) (by kernel_rfl) rfl (fun _ _ _ h => h) rfl hH ?_
       simp only [List.set_cons_zero, List.set_cons_succ]
       refine off_take (i := 11) (d := 52) rfl (by kernel_rfl) (by kernel_rfl) (by kernel_rfl) rfl (fun _ _ _ h => h) rfl hH ?_
       simp only [List.set_cons_zero, List.set_cons_succ]
       refine off_take (i := 12) (d := 53) rfl (by kernel_rfl) (by kernel_rfl) (by kernel_rfl) rfl (fun _ _ _ h => h) rfl hH ?_
       simp only [List.set_cons_zero, List.set_cons_succ]
       refine off_one (i := 13) rfl (by kernel_rfl) rfl hH ?_
       go_simp
       refine off_one (i := 14) rfl (by kernel_rfl) rfl hH ?_
       go_simp
       refine held_take (i := 15) (d := 56) (v := ?_) rfl (by kernel_rfl) (by kernel_rfl) (by kernel_rfl) rfl (fun _ _ _ h => h) rfl hH (fun w' hS => ?_) ?_
       rotate_left
       ·go_simp; first | done | with_reducible rfl
       simp only [List.set_cons_zero, List.set_cons_succ]
       refine held_take (i := 16) (d := 4) (v := ?_) rfl (by kernel_rfl) (by kernel_rfl) (by kernel_rfl) rfl (fun _ _ _ h => h) rfl hH (fun w' hS => ?_) ?_
       rotate_left
       ·go_simp; first | done | with_reducible rfl
       simp only [List.set_cons_zero, List.set_cons_succ]
       refine wpAnyH_done (by kernel_rfl) ?_ _
       go_wp2_with fail
       go_meet
       case rel => exact ⟨congrArg Value.bool (by rw [hF2.out, hT.out]), Lib.hid hH⟩
      case rest =>
       obtain ⟨rfl, BW⟩ := hcut
       have Bx := Lib.hid (bnext Bw.out BW.out)
       go_wp2_with fail
       go_ret
       exact bl_of rfl Bx.out
  ·have q1 : ((x.ar.len : Int) != m) = true := by simp [hn]
   have q2 := decide_eq_false hn
   replace hn := Lib.hid hn
   go_wp2_with fail
   go_ret
   exact bl_of (by rw [hE.out, ← hD.out, q2]; rfl) B1.out
theorem rform_any (i : Bool) (x : Ex) (ua aa : Option Addr) (uc ac : Nat) (w : World) (hsx : x.szs) (hA : Ec w x ua uc aa ac) : Calls Tryz.prog 65 #[.agg (exC x.h x.ar.len ua uc aa ac), .bool i] w (Bl (fmE i x) w) := by
 have key : ∀ n, ∀ (i : Bool) (x : Ex) (ua aa : Option Addr) (uc ac : Nat) (w : World), x.ar.sz < n → x.szs → Ec w x ua uc aa ac → Calls Tryz.prog 65 #[.agg (exC x.h x.ar.len ua uc aa ac), .bool i] w (Bl (fmE i x) w) := by
  intro n
  induction n with
  | zero => intro i x ua aa uc ac w h; exact absurd h (Nat.not_lt_zero _)
  | succ n ih =>
   intro i x ua aa uc ac w h hsx hA
   exact rform_step x.ar.sz (fun i' x' ua' aa' uc' ac' w' h' => ih i' x' ua' aa' uc' ac' w' (by omega)) i x ua aa uc ac w rfl hsx hA
 exact key _ i x ua aa uc ac w (Nat.lt_succ_self _) hsx hA
end Go.Proofs.YtbahfelnbofjjaaGreatDoor.ch
namespace Go.Proofs.YtbahfelnbofjjaaGreatDoor.ch
open Go.RowKit dec
theorem rshape_any (x : Ex) (ua aa : Option Addr) (uc ac : Nat) (w : World) (hsx : x.szs) (hA : Ec w x ua uc aa ac) : Calls Tryz.prog 26 #[.agg (exC x.h x.ar.len ua uc aa ac)] w (Num (shE x) w) := by
 have bb := balloc (b0 w) (.cells (exC x.h x.ar.len ua uc aa ac) 29)
 have B0 := Lib.hid bb
 have G := Lib.hid (Blk.new w 29 (exC x.h x.ar.len ua uc aa ac))
 have HA := Lib.hid (hA.keeps bb)
 have C1 := Lib.hid (fun (W : World) (S : Ec W x ua uc aa ac) => rsize_any x ua aa uc ac W S.ar)
 have C2 := Lib.hid (fun (W : World) (S : Ec W x ua uc aa ac) => rdepth_any x ua aa uc ac W S.ar)
 have C3 := Lib.hid (fun (W : World) (S : Ec W x ua uc aa ac) => rform_any false x ua aa uc ac W hsx S)
 have hE : shE x = shE x := rfl
 conv at hE => rhs; unfold shE
 replace hE := Lib.hid hE
 clear hA bb hsx
 generalize szE x = m at *
 generalize dpE x = d at *
 generalize fmE false x = b at *
 go_enter Tryz.func26, Tryz.ntmps26
 go_wp2_with (first | (refine arm_loadT infX Tryz.underlying29 rfl (.tmp 1) rfl rfl _ _ _ rfl G.out rfl ?_) | (refine arm_loadG infX Tryz.underlying29 rfl (.tmp 1) rfl rfl _ _ _ rfl G.out rfl ?_))
 refine (C1.out _ HA.out).mono ?_
 rintro e w1 ⟨rfl, b1⟩
 have B1 := Lib.hid (bnext B0.out b1)
 replace G := Lib.hid (G.out.keeps b1)
 replace HA := Lib.hid (HA.out.keeps b1)
 clear b1
 by_cases h1 : 64 < m
 ·have q1 : decide (64 < m) = true := decide_eq_true h1
  have h3 := Lib.hid h1
  clear h1
  go_wp2_with fail
  go_ret
  exact nu_of (by rw [hE.out, if_pos (.inl h3.out)]) B1.out
 ·have q1 : decide (64 < m) = false := decide_eq_false h1
  have h3 := Lib.hid h1
  clear h1
  go_wp2_with (first | (refine arm_loadT infX Tryz.underlying29 rfl (.tmp 1) rfl rfl _ _ _ rfl G.out rfl ?_) | (refine arm_loadG infX Tryz.underlying29 rfl (.tmp 1) rfl rfl _ _ _ rfl G.out rfl ?_))
  refine (C2.out _ HA.out).mono ?_
  rintro e w2 ⟨rfl, b2⟩
  have B2 := Lib.hid (bnext B1.out b2)
  replace G := Lib.hid (G.out.keeps b2)
  replace HA := Lib.hid (HA.out.keeps b2)
  clear b2
  by_cases h2 : 12 < d
  ·have q2 : decide (12 < d) = true := decide_eq_true h2
   have h4 := Lib.hid h2
   clear h2
   go_wp2_with fail
   go_ret
   exact nu_of (by rw [hE.out, if_pos (.inr h4.out)]) B2.out
  ·have q2 : decide (12 < d) = false := decide_eq_false h2
   have h4 := Lib.hid (show ¬ (64 < m ∨ 12 < d) from fun h => h.elim (fun e => absurd e (by have := h3.out; omega)) h2)
   clear h2
   go_wp2_with (first | (refine arm_loadT infX Tryz.underlying29 rfl (.tmp 1) rfl rfl _ _ _ rfl G.out rfl ?_) | (refine arm_loadG infX Tryz.underlying29 rfl (.tmp 1) rfl rfl _ _ _ rfl G.out rfl ?_))
   refine (C3.out _ HA.out).mono ?_
   rintro e w3 ⟨rfl, b3⟩
   have B3 := Lib.hid (bnext B2.out b3)
   replace G := Lib.hid (G.out.keeps b3)
   replace HA := Lib.hid (HA.out.keeps b3)
   clear b3
   cases b
   ·go_wp2_with fail
    go_ret
    exact nu_of (by rw [hE.out, if_neg h4.out]; rfl) B3.out
   ·go_wp2_with fail
    go_ret
    exact nu_of (by rw [hE.out, if_neg h4.out]; rfl) B3.out
end Go.Proofs.YtbahfelnbofjjaaGreatDoor.ch

/-
  CheckerMatchesShape.
-/
import Derived.Test.YtbkpjhffmaldmaaGreatDoorQ07
import Derived.Test.YtbkpjhffmaldmaaGreatDoorQ13
import Derived.Test.YtbkpjhffmaldmaaGreatDoorZRsh
namespace Go.Proofs.YtbkpjhffmaldmaaGreatDoor.ch
open Go.RowKit dec

set_option maxRecDepth 100000 in
set_option maxHeartbeats 4000000 in
theorem walk_matchesShape (x : Ex) (ua aa : Option Addr) (uc ac : Nat) (w : World) (hsx : x.szs) (hX : Ec w x ua uc aa ac) (T : Tabs w) :
    Calls Tryz.prog 3 #[.agg (exC x.h x.ar.len ua uc aa ac)] w (Bl true w) := by
  have CE := Lib.hid (fun (W : World) (b : Below w.heap.size w W) => example_any W (T.stays b))
  have C1 := Lib.hid (fun (W : World) (b : Below w.heap.size w W) => shape_any' x ua aa uc ac W hsx (hX.keeps b) (T.stays b))
  have C2 := Lib.hid (fun (W : World) (b : Below w.heap.size w W) => rshape_any x ua aa uc ac W hsx (hX.keeps b))
  have C3 := Lib.hid (fun (W : World) (b : Below w.heap.size w W) => size_any x ua aa uc ac W (hX.keeps b).ar)
  have C4 := Lib.hid (fun (W : World) (b : Below w.heap.size w W) => rsize_any x ua aa uc ac W (hX.keeps b).ar)
  have C5 := Lib.hid (fun (W : World) (b : Below w.heap.size w W) => depth_any x ua aa uc ac W (hX.keeps b).ar)
  have C6 := Lib.hid (fun (W : World) (b : Below w.heap.size w W) => rdepth_any x ua aa uc ac W (hX.keeps b).ar)
  have bb := balloc (b0 w) (.cells (exC x.h x.ar.len ua uc aa ac) 29)
  have B0 := Lib.hid bb
  have V1 := Lib.hid (Blk.new w 29 (exC x.h x.ar.len ua uc aa ac))
  have q1 := in_is (rfl : shE x = shE x)
  have q2 := in_is (rfl : szE x = szE x)
  have q3 := in_is (rfl : dpE x = dpE x)
  clear bb hX T hsx
  generalize shE x = e1 at *
  generalize szE x = e2 at *
  generalize dpE x = e3 at *
  go_enter Tryz.func3, Tryz.ntmps3
  go_wp2_with fail
  refine (CE.out _ B0.out).mono ?_
  rintro e w1 ⟨rfl, b1⟩
  have B1 := Lib.hid (bnext B0.out b1)
  replace V1 := Lib.hid (V1.out.keeps b1)
  clear b1
  clear CE
  generalize hg2 : w.heap.size = g2 at V1 ⊢
  clear hg2
  go_upto_region 2 with fail
  go_cut [2] from 5 to 26 (fun v wx => v = .bool true ∧ Hid (Below w1.heap.size w1 wx))
  case first =>
    refine wp_region_held_drew (S := fun w' => Below w1.heap.size w1 w') (by kernel_rfl) (b0 w1).drew (fun hH => ?_)
    refine held_take (i := 0) (d := 5) (v := ?_) rfl (by kernel_rfl) (by kernel_rfl) (by kernel_rfl) rfl (fun _ _ _ h => h) rfl hH (fun w' hS => ?_) ?_
    rotate_left
    · go_simp; first | done | with_reducible rfl
    simp only [List.set_cons_zero, List.set_cons_succ]
    refine held_take (i := 1) (d := 6) (v := ?_) rfl (by kernel_rfl) (by kernel_rfl) (by kernel_rfl) rfl (fun _ _ _ h => h) rfl hH (fun w' hS => ?_) ?_
    rotate_left
    · go_simp; first | done | with_reducible rfl
    simp only [List.set_cons_zero, List.set_cons_succ]
    refine held_take (i := 2) (d := 7) (v := .agg (exC x.h x.ar.len ua uc aa ac)) rfl (by kernel_rfl) (by kernel_rfl) (by kernel_rfl) rfl (fun _ _ _ h => h) rfl hH (fun w' hS => yield_load infX Tryz.underlying29 rfl (.tmp 1) rfl _ _ _ rfl (V1.out.keeps hS) rfl) ?_
    simp only [List.set_cons_zero, List.set_cons_succ]
    refine held_take (i := 4) (d := 9) (v := .agg (exC x.h x.ar.len ua uc aa ac)) rfl (by kernel_rfl) (by kernel_rfl) (by kernel_rfl) rfl (fun _ _ _ h => h) rfl hH (fun w' hS => yield_load infX Tryz.underlying29 rfl (.tmp 1) rfl _ _ _ rfl (V1.out.keeps hS) rfl) ?_
    simp only [List.set_cons_zero, List.set_cons_succ]
    generalize w1.drew = yy at *
    refine held_only (i := 3) rfl (by kernel_rfl) rfl (fun K hK => ?_)
    go_simp
    refine (C1.out _ (bnext B1.out hH)).mono ?_
    rintro e y21 ⟨rfl, b21⟩
    skip
    refine hK.out _ _ (bnext hH b21) (fun hH => ?_)
    clear hK K
    clear b21
    refine held_only (i := 5) rfl (by kernel_rfl) rfl (fun K hK => ?_)
    go_simp
    refine (C2.out _ (bnext B1.out hH)).mono ?_
    rintro e y22 ⟨rfl, b22⟩
    skip
    refine hK.out _ _ (bnext hH b22) (fun hH => ?_)
    clear hK K
    clear b22
    refine held_take (i := 6) (d := 11) (v := ?_) rfl (by kernel_rfl) (by kernel_rfl) (by kernel_rfl) rfl (fun _ _ _ h => h) rfl hH (fun w' hS => ?_) ?_
    rotate_left
    · go_simp; first | done | with_reducible rfl
    simp only [List.set_cons_zero, List.set_cons_succ]
    refine held_take (i := 7) (d := 12) (v := ?_) rfl (by kernel_rfl) (by kernel_rfl) (by kernel_rfl) rfl (fun _ _ _ h => h) rfl hH (fun w' hS => ?_) ?_
    rotate_left
    · go_simp; first | done | with_reducible rfl
    simp only [List.set_cons_zero, List.set_cons_succ]
    refine held_take (i := 8) (d := 13) (v := ?_) rfl (by kernel_rfl) (by kernel_rfl) (by kernel_rfl) rfl (fun _ _ _ h => h) rfl hH (fun w' hS => ?_) ?_
    rotate_left
    · go_simp; first | done | with_reducible rfl
    simp only [List.set_cons_zero, List.set_cons_succ]
    refine held_take (i := 9) (d := 14) (v := .agg (exC x.h x.ar.len ua uc aa ac)) rfl (by kernel_rfl) (by kernel_rfl) (by kernel_rfl) rfl (fun _ _ _ h => h) rfl hH (fun w' hS => yield_load infX Tryz.underlying29 rfl (.tmp 1) rfl _ _ _ rfl (V1.out.keeps hS) rfl) ?_
    simp only [List.set_cons_zero, List.set_cons_succ]
    refine held_take (i := 11) (d := 16) (v := .agg (exC x.h x.ar.len ua uc aa ac)) rfl (by kernel_rfl) (by kernel_rfl) (by kernel_rfl) rfl (fun _ _ _ h => h) rfl hH (fun w' hS => yield_load infX Tryz.underlying29 rfl (.tmp 1) rfl _ _ _ rfl (V1.out.keeps hS) rfl) ?_
    simp only [List.set_cons_zero, List.set_cons_succ]
    refine held_only (i := 10) rfl (by kernel_rfl) rfl (fun K hK => ?_)
    go_simp
    refine (C3.out _ (bnext B1.out hH)).mono ?_
    rintro e y23 ⟨rfl, b23⟩
    skip
    refine hK.out _ _ (bnext hH b23) (fun hH => ?_)
    clear hK K
    clear b23
    refine held_only (i := 12) rfl (by kernel_rfl) rfl (fun K hK => ?_)
    go_simp
    refine (C4.out _ (bnext B1.out hH)).mono ?_
    rintro e y24 ⟨rfl, b24⟩
    skip
    refine hK.out _ _ (bnext hH b24) (fun hH => ?_)
    clear hK K
    clear b24
    refine held_take (i := 13) (d := 18) (v := ?_) rfl (by kernel_rfl) (by kernel_rfl) (by kernel_rfl) rfl (fun _ _ _ h => h) rfl hH (fun w' hS => ?_) ?_
    rotate_left
    · go_simp; first | done | with_reducible rfl
    simp only [List.set_cons_zero, List.set_cons_succ]
    refine held_take (i := 14) (d := 19) (v := ?_) rfl (by kernel_rfl) (by kernel_rfl) (by kernel_rfl) rfl (fun _ _ _ h => h) rfl hH (fun w' hS => ?_) ?_
    rotate_left
    · go_simp; first | done | with_reducible rfl
    simp only [List.set_cons_zero, List.set_cons_succ]
    refine held_take (i := 15) (d := 20) (v := ?_) rfl (by kernel_rfl) (by kernel_rfl) (by kernel_rfl) rfl (fun _ _ _ h => h) rfl hH (fun w' hS => ?_) ?_
    rotate_left
    · go_simp; first | done | with_reducible rfl
    simp only [List.set_cons_zero, List.set_cons_succ]
    refine held_take (i := 16) (d := 21) (v := .agg (exC x.h x.ar.len ua uc aa ac)) rfl (by kernel_rfl) (by kernel_rfl) (by kernel_rfl) rfl (fun _ _ _ h => h) rfl hH (fun w' hS => yield_load infX Tryz.underlying29 rfl (.tmp 1) rfl _ _ _ rfl (V1.out.keeps hS) rfl) ?_
    simp only [List.set_cons_zero, List.set_cons_succ]
    refine held_take (i := 18) (d := 23) (v := .agg (exC x.h x.ar.len ua uc aa ac)) rfl (by kernel_rfl) (by kernel_rfl) (by kernel_rfl) rfl (fun _ _ _ h => h) rfl hH (fun w' hS => yield_load infX Tryz.underlying29 rfl (.tmp 1) rfl _ _ _ rfl (V1.out.keeps hS) rfl) ?_
    simp only [List.set_cons_zero, List.set_cons_succ]
    refine held_only (i := 17) rfl (by kernel_rfl) rfl (fun K hK => ?_)
    go_simp
    refine (C5.out _ (bnext B1.out hH)).mono ?_
    rintro e y25 ⟨rfl, b25⟩
    skip
    refine hK.out _ _ (bnext hH b25) (fun hH => ?_)
    clear hK K
    clear b25
    refine held_only (i := 19) rfl (by kernel_rfl) rfl (fun K hK => ?_)
    go_simp
    refine (C6.out _ (bnext B1.out hH)).mono ?_
    rintro e y26 ⟨rfl, b26⟩
    skip
    refine hK.out _ _ (bnext hH b26) (fun hH => ?_)
    clear hK K
    clear b26
    refine held_take (i := 20) (d := 25) (v := ?_) rfl (by kernel_rfl) (by kernel_rfl) (by kernel_rfl) rfl (fun _ _ _ h => h) rfl hH (fun w' hS => ?_) ?_
    rotate_left
    · go_simp; first | done | with_reducible rfl
    simp only [List.set_cons_zero, List.set_cons_succ]
    refine held_take (i := 21) (d := 26) (v := ?_) rfl (by kernel_rfl) (by kernel_rfl) (by kernel_rfl) rfl (fun _ _ _ h => h) rfl hH (fun w' hS => ?_) ?_
    rotate_left
    · go_simp; first | done | with_reducible rfl
    simp only [List.set_cons_zero, List.set_cons_succ]
    refine held_take (i := 22) (d := 2) (v := ?_) rfl (by kernel_rfl) (by kernel_rfl) (by kernel_rfl) rfl (fun _ _ _ h => h) rfl hH (fun w' hS => ?_) ?_
    rotate_left
    · go_simp; first | done | with_reducible rfl
    simp only [List.set_cons_zero, List.set_cons_succ]
    refine wpAnyH_done (by kernel_rfl) ?_ _
    go_wp2_with fail
    go_meet
    case rel => exact ⟨rfl, Lib.hid hH⟩
  case rest =>
    obtain ⟨rfl, BW⟩ := hcut
    have Bx := Lib.hid (bnext B1.out BW.out)
    go_wp2_with fail
    go_ret
    exact bl_of rfl Bx.out
end Go.Proofs.YtbkpjhffmaldmaaGreatDoor.ch

/-
  CheckerMatchesTables.
-/
import Derived.Test.YtbkpjhffmaldmaaGreatDoorQ13
import Derived.Test.YtbkpjhffmaldmaaGreatDoorZRtb
import Derived.Test.YtbkpjhffmaldmaaGreatDoorZRty
namespace Go.Proofs.YtbkpjhffmaldmaaGreatDoor.ch
open Go.RowKit dec

set_option maxRecDepth 100000 in
set_option maxHeartbeats 4000000 in
theorem walk_matchesTables (t : Ty) (u : Tb) (ua a : Option Addr) (uc c : Nat) (w : World) (hS : un.Sl w ua t.un.length uc t.un) (hz : t.of.size ≤ 140737488355328) (hu : u.sz) (hF : Fis w a u.fs.length c u.fs) (T : Tabs w) :
    Calls Tryz.prog 4 #[.agg (tyC t ua uc), .agg (tbC u a c)] w (Bl true w) := by
  have CE := Lib.hid (fun (W : World) (b : Below w.heap.size w W) => example_any W (T.stays b))
  have C1 := Lib.hid (fun (W : World) (b : Below w.heap.size w W) => type_any t ua uc W (hS.keeps b) hz (T.stays b))
  have C2 := Lib.hid (fun (W : World) (b : Below w.heap.size w W) => rtype_any t ua uc W (hS.keeps b))
  have C3 := Lib.hid (fun (W : World) (b : Below w.heap.size w W) => table_any u a c W hu (hF.keeps b) (T.stays b))
  have C4 := Lib.hid (fun (W : World) (b : Below w.heap.size w W) => rtable_any u a c W (hF.keeps b))
  have bb := below_two w (.cells (tyC t ua uc) 36) (.cells (tbC u a c) 39)
  have B0 := Lib.hid bb
  have GG := bw_two w (tyC t ua uc) (tbC u a c) 36 39
  have V2 := Lib.hid GG.1
  have V3 := Lib.hid GG.2
  have q1 := in_is (rfl : tyE t = tyE t)
  have q2 := in_is (rfl : tbE u = tbE u)
  clear bb GG hS hF T hz hu
  generalize tyE t = e1 at *
  generalize tbE u = e2 at *
  go_enter Tryz.func4, Tryz.ntmps4
  go_wp2_with fail
  refine (CE.out _ B0.out).mono ?_
  rintro e w1 ⟨rfl, b1⟩
  have B1 := Lib.hid (bnext B0.out b1)
  replace V2 := Lib.hid (V2.out.keeps b1)
  replace V3 := Lib.hid (V3.out.keeps b1)
  clear b1
  clear CE
  generalize hg3 : w.heap.size + 1 = g3 at V3 ⊢
  generalize hg2 : w.heap.size = g2 at V2 ⊢
  clear hg2 hg3
  go_upto_region 2 with fail
  go_cut [4] from 7 to 22 (fun v wx => v = .bool true ∧ Hid (Below w1.heap.size w1 wx))
  case first =>
    refine wp_region_held_drew (S := fun w' => Below w1.heap.size w1 w') (by kernel_rfl) (b0 w1).drew (fun hH => ?_)
    refine held_take (i := 0) (d := 7) (v := ?_) rfl (by kernel_rfl) (by kernel_rfl) (by kernel_rfl) rfl (fun _ _ _ h => h) rfl hH (fun w' hS => ?_) ?_
    rotate_left
    · go_simp; first | done | with_reducible rfl
    simp only [List.set_cons_zero, List.set_cons_succ]
    refine held_take (i := 1) (d := 8) (v := ?_) rfl (by kernel_rfl) (by kernel_rfl) (by kernel_rfl) rfl (fun _ _ _ h => h) rfl hH (fun w' hS => ?_) ?_
    rotate_left
    · go_simp; first | done | with_reducible rfl
    simp only [List.set_cons_zero, List.set_cons_succ]
    refine held_take (i := 2) (d := 9) (v := .agg (tyC t ua uc)) rfl (by kernel_rfl) (by kernel_rfl) (by kernel_rfl) rfl (fun _ _ _ h => h) rfl hH (fun w' hS => yield_load infTy Tryz.underlying36 rfl (.tmp 2) rfl _ _ _ rfl (V2.out.keeps hS) rfl) ?_
    simp only [List.set_cons_zero, List.set_cons_succ]
    refine held_take (i := 4) (d := 11) (v := .agg (tyC t ua uc)) rfl (by kernel_rfl) (by kernel_rfl) (by kernel_rfl) rfl (fun _ _ _ h => h) rfl hH (fun w' hS => yield_load infTy Tryz.underlying36 rfl (.tmp 2) rfl _ _ _ rfl (V2.out.keeps hS) rfl) ?_
    simp only [List.set_cons_zero, List.set_cons_succ]
    generalize w1.drew = yy at *
    refine held_only (i := 3) rfl (by kernel_rfl) rfl (fun K hK => ?_)
    go_simp
    refine (C1.out _ (bnext B1.out hH)).mono ?_
    rintro e y21 ⟨rfl, b21⟩
    skip
    refine hK.out _ _ (bnext hH b21) (fun hH => ?_)
    clear hK K
    clear b21
    refine held_only (i := 5) rfl (by kernel_rfl) rfl (fun K hK => ?_)
    go_simp
    refine (C2.out _ (bnext B1.out hH)).mono ?_
    rintro e y22 ⟨rfl, b22⟩
    skip
    refine hK.out _ _ (bnext hH b22) (fun hH => ?_)
    clear hK K
    clear b22
    refine held_take (i := 6) (d := 13) (v := ?_) rfl (by kernel_rfl) (by kernel_rfl) (by kernel_rfl) rfl (fun _ _ _ h => h) rfl hH (fun w' hS => ?_) ?_
    rotate_left
    · go_simp; first | done | with_reducible rfl
    simp only [List.set_cons_zero, List.set_cons_succ]
    refine held_take (i := 7) (d := 14) (v := ?_) rfl (by kernel_rfl) (by kernel_rfl) (by kernel_rfl) rfl (fun _ _ _ h => h) rfl hH (fun w' hS => ?_) ?_
    rotate_left
    · go_simp; first | done | with_reducible rfl
    simp only [List.set_cons_zero, List.set_cons_succ]
    refine held_take (i := 8) (d := 15) (v := ?_) rfl (by kernel_rfl) (by kernel_rfl) (by kernel_rfl) rfl (fun _ _ _ h => h) rfl hH (fun w' hS => ?_) ?_
    rotate_left
    · go_simp; first | done | with_reducible rfl
    simp only [List.set_cons_zero, List.set_cons_succ]
    refine held_take (i := 9) (d := 16) (v := .agg (tbC u a c)) rfl (by kernel_rfl) (by kernel_rfl) (by kernel_rfl) rfl (fun _ _ _ h => h) rfl hH (fun w' hS => yield_load infTb Tryz.underlying39 rfl (.tmp 3) rfl _ _ _ rfl (V3.out.keeps hS) rfl) ?_
    simp only [List.set_cons_zero, List.set_cons_succ]
    refine held_take (i := 11) (d := 18) (v := .agg (tbC u a c)) rfl (by kernel_rfl) (by kernel_rfl) (by kernel_rfl) rfl (fun _ _ _ h => h) rfl hH (fun w' hS => yield_load infTb Tryz.underlying39 rfl (.tmp 3) rfl _ _ _ rfl (V3.out.keeps hS) rfl) ?_
    simp only [List.set_cons_zero, List.set_cons_succ]
    refine held_only (i := 10) rfl (by kernel_rfl) rfl (fun K hK => ?_)
    go_simp
    refine (C3.out _ (bnext B1.out hH)).mono ?_
    rintro e y23 ⟨rfl, b23⟩
    skip
    refine hK.out _ _ (bnext hH b23) (fun hH => ?_)
    clear hK K
    clear b23
    refine held_only (i := 12) rfl (by kernel_rfl) rfl (fun K hK => ?_)
    go_simp
    refine (C4.out _ (bnext B1.out hH)).mono ?_
    rintro e y24 ⟨rfl, b24⟩
    skip
    refine hK.out _ _ (bnext hH b24) (fun hH => ?_)
    clear hK K
    clear b24
    refine held_take (i := 13) (d := 20) (v := ?_) rfl (by kernel_rfl) (by kernel_rfl) (by kernel_rfl) rfl (fun _ _ _ h => h) rfl hH (fun w' hS => ?_) ?_
    rotate_left
    · go_simp; first | done | with_reducible rfl
    simp only [List.set_cons_zero, List.set_cons_succ]
    refine held_take (i := 14) (d := 21) (v := ?_) rfl (by kernel_rfl) (by kernel_rfl) (by kernel_rfl) rfl (fun _ _ _ h => h) rfl hH (fun w' hS => ?_) ?_
    rotate_left
    · go_simp; first | done | with_reducible rfl
    simp only [List.set_cons_zero, List.set_cons_succ]
    refine held_take (i := 15) (d := 4) (v := ?_) rfl (by kernel_rfl) (by kernel_rfl) (by kernel_rfl) rfl (fun _ _ _ h => h) rfl hH (fun w' hS => ?_) ?_
    rotate_left
    · go_simp; first | done | with_reducible rfl
    simp only [List.set_cons_zero, List.set_cons_succ]
    refine wpAnyH_done (by kernel_rfl) ?_ _
    go_wp2_with fail
    go_meet
    case rel => exact ⟨rfl, Lib.hid hH⟩
  case rest =>
    obtain ⟨rfl, BW⟩ := hcut
    have Bx := Lib.hid (bnext B1.out BW.out)
    go_wp2_with fail
    go_ret
    exact bl_of rfl Bx.out
end Go.Proofs.YtbkpjhffmaldmaaGreatDoor.ch

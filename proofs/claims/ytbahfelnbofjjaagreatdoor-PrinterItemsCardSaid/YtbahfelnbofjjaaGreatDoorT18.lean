/-
  The reference's texts of expressions.
-/
import Derived.Test.YtbahfelnbofjjaaGreatDoorT17
set_option maxRecDepth 100000
set_option maxHeartbeats 16000000
namespace Go.Proofs.YtbahfelnbofjjaaGreatDoor.ch
open Go.RowKit dec
theorem rbinary_any (h : Hd) (ua : Option Addr) (bk off : Nat) (uc ac : Nat) (p : Ex) (va1 wa1 : Option Addr) (vc1 wc1 : Nat) (q : Ex) (va2 wa2 : Option Addr) (vc2 wc2 : Nat) (w : World) (hR1 : w.rangeAt bk (off + 0) (exC p.h p.ar.len va1 vc1 wa1 wc1).toList) (hR2 : w.rangeAt bk (off + 12) (exC q.h q.ar.len va2 vc2 wa2 wc2).toList) (t1 t2 : List UInt8) (r : Int) (r0 : 0 ≤ r) (r1 : r ≤ 9) (l1 : t1.length ≤ 1000000) (l2 : t2.length ≤ 1000000) (l3 : h.op.data.toList.length ≤ 1000) (CR : ∀ W, Below w.heap.size w W → Calls Tryz.prog 162 #[.agg (exC h 2 ua uc (some ⟨bk, off, none⟩) ac)] W (Num r W)) (C1 : ∀ W, Below w.heap.size w W → Calls Tryz.prog 112 #[.agg (exC p.h p.ar.len va1 vc1 wa1 wc1), .int .i64 (lef r)] W (Sr (B8 (t1)) W)) (C2 : ∀ W, Below w.heap.size w W → Calls Tryz.prog 112 #[.agg (exC q.h q.ar.len va2 vc2 wa2 wc2), .int .i64 (r + 1)] W (Sr (B8 (t2)) W)) : Calls Tryz.prog 111 #[.agg (exC h 2 ua uc (some ⟨bk, off, none⟩) ac)] w (Sr (B8 ((((t1 ++ [32]) ++ h.op.data.toList) ++ [32]) ++ t2)) w) := by
 have bb := balloc (b0 w) (.cells (exC h 2 ua uc (some ⟨bk, off, none⟩) ac) 29)
 have B0 := Lib.hid bb
 have G := Lib.hid (Blk.new w 29 (exC h 2 ua uc (some ⟨bk, off, none⟩) ac))
 have R1 := Lib.hid (range_keeps hR1 bb)
 have R2 := Lib.hid (range_keeps hR2 bb)
 replace CR := Lib.hid CR
 replace C1 := Lib.hid C1
 replace C2 := Lib.hid C2
 clear bb hR1 hR2
 have A1 := add_b8 (t1) ([32]) (by first | omega | (simp only [List.length_append]; omega) | (simp only [List.length_cons, List.length_nil]; omega) | (simp only [List.length_cons, List.length_append, List.length_nil]; omega) | decide) (by first | omega | (simp only [List.length_append]; omega) | (simp only [List.length_cons, List.length_nil]; omega) | (simp only [List.length_cons, List.length_append, List.length_nil]; omega) | decide)
 replace A1 : ∀ W, (Op.stringOp .add (B8 t1) ⟨#[32]⟩).run Tryz.prog W = .ok (.string (B8 (t1 ++ [32]))) W := A1
 have A2 := add_b8 ((t1 ++ [32])) (h.op.data.toList) (by first | omega | (simp only [List.length_append]; omega) | (simp only [List.length_cons, List.length_nil]; omega) | (simp only [List.length_cons, List.length_append, List.length_nil]; omega) | decide) (by first | omega | (simp only [List.length_append]; omega) | (simp only [List.length_cons, List.length_nil]; omega) | (simp only [List.length_cons, List.length_append, List.length_nil]; omega) | decide)
 replace A2 : ∀ W, (Op.stringOp .add (B8 (t1 ++ [32])) h.op).run Tryz.prog W = .ok (.string (B8 ((t1 ++ [32]) ++ h.op.data.toList))) W := A2
 have A3 := add_b8 (((t1 ++ [32]) ++ h.op.data.toList)) ([32]) (by first | omega | (simp only [List.length_append]; omega) | (simp only [List.length_cons, List.length_nil]; omega) | (simp only [List.length_cons, List.length_append, List.length_nil]; omega) | decide) (by first | omega | (simp only [List.length_append]; omega) | (simp only [List.length_cons, List.length_nil]; omega) | (simp only [List.length_cons, List.length_append, List.length_nil]; omega) | decide)
 replace A3 : ∀ W, (Op.stringOp .add (B8 ((t1 ++ [32]) ++ h.op.data.toList)) ⟨#[32]⟩).run Tryz.prog W = .ok (.string (B8 (((t1 ++ [32]) ++ h.op.data.toList) ++ [32]))) W := A3
 have A4 := add_b8 ((((t1 ++ [32]) ++ h.op.data.toList) ++ [32])) (t2) (by first | omega | (simp only [List.length_append]; omega) | (simp only [List.length_cons, List.length_nil]; omega) | (simp only [List.length_cons, List.length_append, List.length_nil]; omega) | decide) (by first | omega | (simp only [List.length_append]; omega) | (simp only [List.length_cons, List.length_nil]; omega) | (simp only [List.length_cons, List.length_append, List.length_nil]; omega) | decide)
 replace A4 : ∀ W, (Op.stringOp .add (B8 (((t1 ++ [32]) ++ h.op.data.toList) ++ [32])) (B8 t2)).run Tryz.prog W = .ok (.string (B8 ((((t1 ++ [32]) ++ h.op.data.toList) ++ [32]) ++ t2))) W := A4
 clear l1 l2 l3
 generalize B8 ((((t1 ++ [32]) ++ h.op.data.toList) ++ [32]) ++ t2) = s1 at *
 generalize B8 (((t1 ++ [32]) ++ h.op.data.toList) ++ [32]) = s2 at *
 generalize B8 ((t1 ++ [32]) ++ h.op.data.toList) = s3 at *
 generalize B8 (t1 ++ [32]) = s4 at *
 generalize B8 t1 = s5 at *
 generalize B8 t2 = s6 at *
 have hw := Lib.hid (show IntKind.i64.wrap (r + 1) = r + 1 from by rw [IntKind.wrap_i64]; omega)
 clear r0 r1
 unfold exC at *
 go_enter Tryz.func111, Tryz.ntmps111
 go_upto_region 1 with fail
 generalize hw0 : (w.alloc (.cells #[.int .i64 h.k, .string h.op, .string h.nm, .string h.tb, .int .i64 h.vk, .int .i64 h.vn, .string h.vs, .slice ua h.un.length uc, .int .i64 h.pa, .int .i64 h.wk, .int .i64 h.ws, .slice (some ⟨bk, off, none⟩) 2 ac] 29)) = w0 at *
 generalize hg2 : w.heap.size = g2 at G ⊢
 clear hw0 hg2
 go_wp2_with (refine arm_loadT infX Tryz.underlying29 rfl (.tmp 1) rfl rfl _ _ _ rfl G.out rfl ?_)
 refine (CR.out _ B0.out).mono ?_
 rintro e w1 ⟨rfl, b1⟩
 have B1 := Lib.hid (bnext B0.out b1)
 replace G := Lib.hid (G.out.keeps b1)
 replace R1 := Lib.hid (range_keeps R1.out b1)
 replace R2 := Lib.hid (range_keeps R2.out b1)
 clear b1 CR
 by_cases hq : r = 5
 ·subst hq
  replace C1 := Lib.hid (show ∀ W, Below w.heap.size w W → Calls Tryz.prog 112 #[.agg #[.int .i64 p.h.k, .string p.h.op, .string p.h.nm, .string p.h.tb, .int .i64 p.h.vk, .int .i64 p.h.vn, .string p.h.vs, .slice va1 p.h.un.length vc1, .int .i64 p.h.pa, .int .i64 p.h.wk, .int .i64 p.h.ws, .slice wa1 p.ar.len wc1], .int .i64 6] W (Sr s5 W) from C1.out)
  replace C2 := Lib.hid (show ∀ W, Below w.heap.size w W → Calls Tryz.prog 112 #[.agg #[.int .i64 q.h.k, .string q.h.op, .string q.h.nm, .string q.h.tb, .int .i64 q.h.vk, .int .i64 q.h.vn, .string q.h.vs, .slice va2 q.h.un.length vc2, .int .i64 q.h.pa, .int .i64 q.h.wk, .int .i64 q.h.ws, .slice wa2 q.ar.len wc2], .int .i64 6] W (Sr s6 W) from C2.out)
  go_upto_region 5 with fail
  refine wp_region_held_drew (S := fun w' => Below w1.heap.size w1 w') (by kernel_rfl) (b0 w1).drew (fun hH => ?_)
  refine held_take (i := 0) (d := 10) (v := ?_) rfl (by kernel_rfl) (by kernel_rfl) (by kernel_rfl) rfl (fun _ _ _ h => h) rfl hH (fun w' hS => ?_) ?_
  rotate_left
  ·go_simp; first | done | with_reducible rfl
  simp only [List.set_cons_zero, List.set_cons_succ]
  refine held_take (i := 1) (d := 11) (v := ?_) rfl (by kernel_rfl) (by kernel_rfl) (by kernel_rfl) rfl (fun _ _ _ h => h) rfl hH (fun w' hS => ?_) ?_
  rotate_left
  ·have m11 := (G.out.keeps hS).cell 11; simp only [List.getElem?_toArray, List.getElem?_cons_zero, List.getElem?_cons_succ] at m11; go_simp; first | done | with_reducible rfl
  simp only [List.set_cons_zero, List.set_cons_succ]
  refine held_take (i := 2) (d := 12) (v := ?_) rfl (by kernel_rfl) (by kernel_rfl) (by kernel_rfl) rfl (fun _ _ _ h => h) rfl hH (fun w' hS => ?_) ?_
  rotate_left
  ·go_simp; first | done | with_reducible rfl
  simp only [List.set_cons_zero, List.set_cons_succ]
  refine held_take (i := 3) (d := 13) (v := .agg #[.int .i64 p.h.k, .string p.h.op, .string p.h.nm, .string p.h.tb, .int .i64 p.h.vk, .int .i64 p.h.vn, .string p.h.vs, .slice va1 p.h.un.length vc1, .int .i64 p.h.pa, .int .i64 p.h.wk, .int .i64 p.h.ws, .slice wa1 p.ar.len wc1]) rfl (by kernel_rfl) (by kernel_rfl) (by kernel_rfl) rfl (fun _ _ _ h => h) rfl hH (fun w' hS => yield_loadM infX Tryz.underlying29 rfl (.tmp 12) rfl bk (off + 0) #[.int .i64 p.h.k, .string p.h.op, .string p.h.nm, .string p.h.tb, .int .i64 p.h.vk, .int .i64 p.h.vn, .string p.h.vs, .slice va1 p.h.un.length vc1, .int .i64 p.h.pa, .int .i64 p.h.wk, .int .i64 p.h.ws, .slice wa1 p.ar.len wc1] rfl (range_keeps R1.out hS) rfl) ?_
  simp only [List.set_cons_zero, List.set_cons_succ]
  refine held_take (i := 4) (d := 14) (v := ?_) rfl (by kernel_rfl) (by kernel_rfl) (by kernel_rfl) rfl (fun _ _ _ h => h) rfl hH (fun w' hS => ?_) ?_
  rotate_left
  ·go_simp; first | done | with_reducible rfl
  simp only [List.set_cons_zero, List.set_cons_succ]
  refine held_take (i := 7) (d := 17) (v := ?_) rfl (by kernel_rfl) (by kernel_rfl) (by kernel_rfl) rfl (fun _ _ _ h => h) rfl hH (fun w' hS => ?_) ?_
  rotate_left
  ·go_simp; first | done | with_reducible rfl
  simp only [List.set_cons_zero, List.set_cons_succ]
  refine held_take (i := 8) (d := 18) (v := ?_) rfl (by kernel_rfl) (by kernel_rfl) (by kernel_rfl) rfl (fun _ _ _ h => h) rfl hH (fun w' hS => ?_) ?_
  rotate_left
  ·have m1 := (G.out.keeps hS).cell 1; simp only [List.getElem?_toArray, List.getElem?_cons_zero, List.getElem?_cons_succ] at m1; go_simp; first | done | with_reducible rfl
  simp only [List.set_cons_zero, List.set_cons_succ]
  refine held_take (i := 11) (d := 21) (v := ?_) rfl (by kernel_rfl) (by kernel_rfl) (by kernel_rfl) rfl (fun _ _ _ h => h) rfl hH (fun w' hS => ?_) ?_
  rotate_left
  ·go_simp; first | done | with_reducible rfl
  simp only [List.set_cons_zero, List.set_cons_succ]
  refine held_take (i := 12) (d := 22) (v := ?_) rfl (by kernel_rfl) (by kernel_rfl) (by kernel_rfl) rfl (fun _ _ _ h => h) rfl hH (fun w' hS => ?_) ?_
  rotate_left
  ·have m11 := (G.out.keeps hS).cell 11; simp only [List.getElem?_toArray, List.getElem?_cons_zero, List.getElem?_cons_succ] at m11; go_simp; first | done | with_reducible rfl
  simp only [List.set_cons_zero, List.set_cons_succ]
  refine held_take (i := 13) (d := 23) (v := ?_) rfl (by kernel_rfl) (by kernel_rfl) (by kernel_rfl) rfl (fun _ _ _ h => h) rfl hH (fun w' hS => ?_) ?_
  rotate_left
  ·go_simp; first | done | with_reducible rfl
  simp only [List.set_cons_zero, List.set_cons_succ]
  refine held_take (i := 14) (d := 24) (v := .agg #[.int .i64 q.h.k, .string q.h.op, .string q.h.nm, .string q.h.tb, .int .i64 q.h.vk, .int .i64 q.h.vn, .string q.h.vs, .slice va2 q.h.un.length vc2, .int .i64 q.h.pa, .int .i64 q.h.wk, .int .i64 q.h.ws, .slice wa2 q.ar.len wc2]) rfl (by kernel_rfl) (by kernel_rfl) (by kernel_rfl) rfl (fun _ _ _ h => h) rfl hH (fun w' hS => yield_loadM infX Tryz.underlying29 rfl (.tmp 23) rfl bk (off + 12) #[.int .i64 q.h.k, .string q.h.op, .string q.h.nm, .string q.h.tb, .int .i64 q.h.vk, .int .i64 q.h.vn, .string q.h.vs, .slice va2 q.h.un.length vc2, .int .i64 q.h.pa, .int .i64 q.h.wk, .int .i64 q.h.ws, .slice wa2 q.ar.len wc2] rfl (range_keeps R2.out hS) rfl) ?_
  simp only [List.set_cons_zero, List.set_cons_succ]
  refine held_take (i := 15) (d := 25) (v := ?_) rfl (by kernel_rfl) (by kernel_rfl) (by kernel_rfl) rfl (fun _ _ _ h => h) rfl hH (fun w' hS => ?_) ?_
  rotate_left
  ·go_simp; first | done | with_reducible rfl
  simp only [List.set_cons_zero, List.set_cons_succ]
  refine held_take (i := 16) (d := 26) (v := ?_) rfl (by kernel_rfl) (by kernel_rfl) (by kernel_rfl) rfl (fun _ _ _ h => h) rfl hH (fun w' hS => ?_) ?_
  rotate_left
  ·go_simp; first | done | with_reducible rfl
  simp only [List.set_cons_zero, List.set_cons_succ]
  generalize w1.drew = yy at *
  refine held_only (i := 5) rfl (by kernel_rfl) rfl (fun K hK => ?_)
  go_simp
  refine (C1.out _ (bnext B1.out hH)).mono ?_
  rintro e y51 ⟨rfl, b51⟩
  skip
  refine hK.out _ _ (bnext hH b51) (fun hH => ?_)
  clear hK K
  clear b51
  refine held_take (i := 6) (d := 16) (v := ?_) rfl (by kernel_rfl) (by kernel_rfl) (by kernel_rfl) rfl (fun _ _ _ h => h) rfl hH (fun w' hS => ?_) ?_
  rotate_left
  ·have A := A1 w'; go_simp; first | done | (simp only [A]; done) | with_reducible rfl | exact A
  simp only [List.set_cons_zero, List.set_cons_succ]
  refine held_take (i := 9) (d := 19) (v := ?_) rfl (by kernel_rfl) (by kernel_rfl) (by kernel_rfl) rfl (fun _ _ _ h => h) rfl hH (fun w' hS => ?_) ?_
  rotate_left
  ·have A := A2 w'; go_simp; first | done | (simp only [A]; done) | with_reducible rfl | exact A
  simp only [List.set_cons_zero, List.set_cons_succ]
  refine held_take (i := 10) (d := 20) (v := ?_) rfl (by kernel_rfl) (by kernel_rfl) (by kernel_rfl) rfl (fun _ _ _ h => h) rfl hH (fun w' hS => ?_) ?_
  rotate_left
  ·have A := A3 w'; go_simp; first | done | (simp only [A]; done) | with_reducible rfl | exact A
  simp only [List.set_cons_zero, List.set_cons_succ]
  refine held_only (i := 17) rfl (by kernel_rfl) rfl (fun K hK => ?_)
  go_simp
  refine (C2.out _ (bnext B1.out hH)).mono ?_
  rintro e y52 ⟨rfl, b52⟩
  skip
  refine hK.out _ _ (bnext hH b52) (fun hH => ?_)
  clear hK K
  clear b52
  refine held_take (i := 18) (d := 28) (v := ?_) rfl (by kernel_rfl) (by kernel_rfl) (by kernel_rfl) rfl (fun _ _ _ h => h) rfl hH (fun w' hS => ?_) ?_
  rotate_left
  ·have A := A4 w'; go_simp; first | done | (simp only [A]; done) | with_reducible rfl | exact A
  simp only [List.set_cons_zero, List.set_cons_succ]
  refine held_take (i := 19) (d := 2) (v := ?_) rfl (by kernel_rfl) (by kernel_rfl) (by kernel_rfl) rfl (fun _ _ _ h => h) rfl hH (fun w' hS => ?_) ?_
  rotate_left
  ·go_simp; first | done | with_reducible rfl
  simp only [List.set_cons_zero, List.set_cons_succ]
  refine wpAnyH_done (by kernel_rfl) ?_ _
  go_wp2_with fail
  go_ret
  exact sr_of rfl (bnext B1.out hH)
 ·have qq := in_ne hq
  have hl : lef r = r := if_neg hq
  rw [hl] at C1
  rw [← hw.out] at C2
  clear hl hw
  replace hq := Lib.hid hq
  go_upto_region 5 with fail
  refine wp_region_held_drew (S := fun w' => Below w1.heap.size w1 w') (by kernel_rfl) (b0 w1).drew (fun hH => ?_)
  refine held_take (i := 0) (d := 10) (v := ?_) rfl (by kernel_rfl) (by kernel_rfl) (by kernel_rfl) rfl (fun _ _ _ h => h) rfl hH (fun w' hS => ?_) ?_
  rotate_left
  ·go_simp; first | done | with_reducible rfl
  simp only [List.set_cons_zero, List.set_cons_succ]
  refine held_take (i := 1) (d := 11) (v := ?_) rfl (by kernel_rfl) (by kernel_rfl) (by kernel_rfl) rfl (fun _ _ _ h => h) rfl hH (fun w' hS => ?_) ?_
  rotate_left
  ·have m11 := (G.out.keeps hS).cell 11; simp only [List.getElem?_toArray, List.getElem?_cons_zero, List.getElem?_cons_succ] at m11; go_simp; first | done | with_reducible rfl
  simp only [List.set_cons_zero, List.set_cons_succ]
  refine held_take (i := 2) (d := 12) (v := ?_) rfl (by kernel_rfl) (by kernel_rfl) (by kernel_rfl) rfl (fun _ _ _ h => h) rfl hH (fun w' hS => ?_) ?_
  rotate_left
  ·go_simp; first | done | with_reducible rfl
  simp only [List.set_cons_zero, List.set_cons_succ]
  refine held_take (i := 3) (d := 13) (v := .agg #[.int .i64 p.h.k, .string p.h.op, .string p.h.nm, .string p.h.tb, .int .i64 p.h.vk, .int .i64 p.h.vn, .string p.h.vs, .slice va1 p.h.un.length vc1, .int .i64 p.h.pa, .int .i64 p.h.wk, .int .i64 p.h.ws, .slice wa1 p.ar.len wc1]) rfl (by kernel_rfl) (by kernel_rfl) (by kernel_rfl) rfl (fun _ _ _ h => h) rfl hH (fun w' hS => yield_loadM infX Tryz.underlying29 rfl (.tmp 12) rfl bk (off + 0) #[.int .i64 p.h.k, .string p.h.op, .string p.h.nm, .string p.h.tb, .int .i64 p.h.vk, .int .i64 p.h.vn, .string p.h.vs, .slice va1 p.h.un.length vc1, .int .i64 p.h.pa, .int .i64 p.h.wk, .int .i64 p.h.ws, .slice wa1 p.ar.len wc1] rfl (range_keeps R1.out hS) rfl) ?_
  simp only [List.set_cons_zero, List.set_cons_succ]
  refine held_take (i := 4) (d := 14) (v := ?_) rfl (by kernel_rfl) (by kernel_rfl) (by kernel_rfl) rfl (fun _ _ _ h => h) rfl hH (fun w' hS => ?_) ?_
  rotate_left
  ·go_simp; first | done | with_reducible rfl
  simp only [List.set_cons_zero, List.set_cons_succ]
  refine held_take (i := 7) (d := 17) (v := ?_) rfl (by kernel_rfl) (by kernel_rfl) (by kernel_rfl) rfl (fun _ _ _ h => h) rfl hH (fun w' hS => ?_) ?_
  rotate_left
  ·go_simp; first | done | with_reducible rfl
  simp only [List.set_cons_zero, List.set_cons_succ]
  refine held_take (i := 8) (d := 18) (v := ?_) rfl (by kernel_rfl) (by kernel_rfl) (by kernel_rfl) rfl (fun _ _ _ h => h) rfl hH (fun w' hS => ?_) ?_
  rotate_left
  ·have m1 := (G.out.keeps hS).cell 1; simp only [List.getElem?_toArray, List.getElem?_cons_zero, List.getElem?_cons_succ] at m1; go_simp; first | done | with_reducible rfl
  simp only [List.set_cons_zero, List.set_cons_succ]
  refine held_take (i := 11) (d := 21) (v := ?_) rfl (by kernel_rfl) (by kernel_rfl) (by kernel_rfl) rfl (fun _ _ _ h => h) rfl hH (fun w' hS => ?_) ?_
  rotate_left
  ·go_simp; first | done | with_reducible rfl
  simp only [List.set_cons_zero, List.set_cons_succ]
  refine held_take (i := 12) (d := 22) (v := ?_) rfl (by kernel_rfl) (by kernel_rfl) (by kernel_rfl) rfl (fun _ _ _ h => h) rfl hH (fun w' hS => ?_) ?_
  rotate_left
  ·have m11 := (G.out.keeps hS).cell 11; simp only [List.getElem?_toArray, List.getElem?_cons_zero, List.getElem?_cons_succ] at m11; go_simp; first | done | with_reducible rfl
  simp only [List.set_cons_zero, List.set_cons_succ]
  refine held_take (i := 13) (d := 23) (v := ?_) rfl (by kernel_rfl) (by kernel_rfl) (by kernel_rfl) rfl (fun _ _ _ h => h) rfl hH (fun w' hS => ?_) ?_
  rotate_left
  ·go_simp; first | done | with_reducible rfl
  simp only [List.set_cons_zero, List.set_cons_succ]
  refine held_take (i := 14) (d := 24) (v := .agg #[.int .i64 q.h.k, .string q.h.op, .string q.h.nm, .string q.h.tb, .int .i64 q.h.vk, .int .i64 q.h.vn, .string q.h.vs, .slice va2 q.h.un.length vc2, .int .i64 q.h.pa, .int .i64 q.h.wk, .int .i64 q.h.ws, .slice wa2 q.ar.len wc2]) rfl (by kernel_rfl) (by kernel_rfl) (by kernel_rfl) rfl (fun _ _ _ h => h) rfl hH (fun w' hS => yield_loadM infX Tryz.underlying29 rfl (.tmp 23) rfl bk (off + 12) #[.int .i64 q.h.k, .string q.h.op, .string q.h.nm, .string q.h.tb, .int .i64 q.h.vk, .int .i64 q.h.vn, .string q.h.vs, .slice va2 q.h.un.length vc2, .int .i64 q.h.pa, .int .i64 q.h.wk, .int .i64 q.h.ws, .slice wa2 q.ar.len wc2] rfl (range_keeps R2.out hS) rfl) ?_
  simp only [List.set_cons_zero, List.set_cons_succ]
  refine held_take (i := 15) (d := 25) (v := ?_) rfl (by kernel_rfl) (by kernel_rfl) (by kernel_rfl) rfl (fun _ _ _ h => h) rfl hH (fun w' hS => ?_) ?_
  rotate_left
  ·go_simp; first | done | with_reducible rfl
  simp only [List.set_cons_zero, List.set_cons_succ]
  refine held_take (i := 16) (d := 26) (v := ?_) rfl (by kernel_rfl) (by kernel_rfl) (by kernel_rfl) rfl (fun _ _ _ h => h) rfl hH (fun w' hS => ?_) ?_
  rotate_left
  ·go_simp; first | done | with_reducible rfl
  simp only [List.set_cons_zero, List.set_cons_succ]
  generalize w1.drew = yy at *
  refine held_only (i := 5) rfl (by kernel_rfl) rfl (fun K hK => ?_)
  go_simp
  refine (C1.out _ (bnext B1.out hH)).mono ?_
  rintro e y51 ⟨rfl, b51⟩
  skip
  refine hK.out _ _ (bnext hH b51) (fun hH => ?_)
  clear hK K
  clear b51
  refine held_take (i := 6) (d := 16) (v := ?_) rfl (by kernel_rfl) (by kernel_rfl) (by kernel_rfl) rfl (fun _ _ _ h => h) rfl hH (fun w' hS => ?_) ?_
  rotate_left
  ·have A := A1 w'; go_simp; first | done | (simp only [A]; done) | with_reducible rfl | exact A
  simp only [List.set_cons_zero, List.set_cons_succ]
  refine held_take (i := 9) (d := 19) (v := ?_) rfl (by kernel_rfl) (by kernel_rfl) (by kernel_rfl) rfl (fun _ _ _ h => h) rfl hH (fun w' hS => ?_) ?_
  rotate_left
  ·have A := A2 w'; go_simp; first | done | (simp only [A]; done) | with_reducible rfl | exact A
  simp only [List.set_cons_zero, List.set_cons_succ]
  refine held_take (i := 10) (d := 20) (v := ?_) rfl (by kernel_rfl) (by kernel_rfl) (by kernel_rfl) rfl (fun _ _ _ h => h) rfl hH (fun w' hS => ?_) ?_
  rotate_left
  ·have A := A3 w'; go_simp; first | done | (simp only [A]; done) | with_reducible rfl | exact A
  simp only [List.set_cons_zero, List.set_cons_succ]
  refine held_only (i := 17) rfl (by kernel_rfl) rfl (fun K hK => ?_)
  go_simp
  refine (C2.out _ (bnext B1.out hH)).mono ?_
  rintro e y52 ⟨rfl, b52⟩
  skip
  refine hK.out _ _ (bnext hH b52) (fun hH => ?_)
  clear hK K
  clear b52
  refine held_take (i := 18) (d := 28) (v := ?_) rfl (by kernel_rfl) (by kernel_rfl) (by kernel_rfl) rfl (fun _ _ _ h => h) rfl hH (fun w' hS => ?_) ?_
  rotate_left
  ·have A := A4 w'; go_simp; first | done | (simp only [A]; done) | with_reducible rfl | exact A
  simp only [List.set_cons_zero, List.set_cons_succ]
  refine held_take (i := 19) (d := 2) (v := ?_) rfl (by kernel_rfl) (by kernel_rfl) (by kernel_rfl) rfl (fun _ _ _ h => h) rfl hH (fun w' hS => ?_) ?_
  rotate_left
  ·go_simp; first | done | with_reducible rfl
  simp only [List.set_cons_zero, List.set_cons_succ]
  refine wpAnyH_done (by kernel_rfl) ?_ _
  go_wp2_with fail
  go_ret
  exact sr_of rfl (bnext B1.out hH)
theorem rtx_look (h : Hd) (ua : Option Addr) (bk off : Nat) (uc ac : Nat) (p : Ex) (va1 wa1 : Option Addr) (vc1 wc1 : Nat) (w : World) (hR1 : w.rangeAt bk (off + 0) (exC p.h p.ar.len va1 vc1 wa1 wc1).toList) (t1 : List UInt8) (l1 : t1.length ≤ 1000000) (l3 : h.nm.data.toList.length ≤ 1000) (hk : h.k = 4) (C1 : ∀ W, Below w.heap.size w W → Calls Tryz.prog 52 #[.agg (exC p.h p.ar.len va1 vc1 wa1 wc1)] W (Sr (B8 (t1)) W)) : Calls Tryz.prog 52 #[.agg (exC h 1 ua uc (some ⟨bk, off, none⟩) ac)] w (Sr (B8 (((h.nm.data.toList ++ [32, 111, 102, 32, 40]) ++ t1) ++ [41])) w) := by
 have bb := balloc (b0 w) (.cells (exC h 1 ua uc (some ⟨bk, off, none⟩) ac) 29)
 have B0 := Lib.hid bb
 have G := Lib.hid (Blk.new w 29 (exC h 1 ua uc (some ⟨bk, off, none⟩) ac))
 have R1 := Lib.hid (range_keeps hR1 bb)
 replace C1 := Lib.hid C1
 clear bb hR1
 have A1 := add_b8 (h.nm.data.toList) ([32, 111, 102, 32, 40]) (by first | omega | (simp only [List.length_append]; omega) | (simp only [List.length_cons, List.length_nil]; omega) | (simp only [List.length_cons, List.length_append, List.length_nil]; omega) | decide) (by first | omega | (simp only [List.length_append]; omega) | (simp only [List.length_cons, List.length_nil]; omega) | (simp only [List.length_cons, List.length_append, List.length_nil]; omega) | decide)
 replace A1 : ∀ W, (Op.stringOp .add h.nm ⟨#[32, 111, 102, 32, 40]⟩).run Tryz.prog W = .ok (.string (B8 (h.nm.data.toList ++ [32, 111, 102, 32, 40]))) W := A1
 have A2 := add_b8 ((h.nm.data.toList ++ [32, 111, 102, 32, 40])) (t1) (by first | omega | (simp only [List.length_append]; omega) | (simp only [List.length_cons, List.length_nil]; omega) | (simp only [List.length_cons, List.length_append, List.length_nil]; omega) | decide) (by first | omega | (simp only [List.length_append]; omega) | (simp only [List.length_cons, List.length_nil]; omega) | (simp only [List.length_cons, List.length_append, List.length_nil]; omega) | decide)
 replace A2 : ∀ W, (Op.stringOp .add (B8 (h.nm.data.toList ++ [32, 111, 102, 32, 40])) (B8 t1)).run Tryz.prog W = .ok (.string (B8 ((h.nm.data.toList ++ [32, 111, 102, 32, 40]) ++ t1))) W := A2
 have A3 := add_b8 (((h.nm.data.toList ++ [32, 111, 102, 32, 40]) ++ t1)) ([41]) (by first | omega | (simp only [List.length_append]; omega) | (simp only [List.length_cons, List.length_nil]; omega) | (simp only [List.length_cons, List.length_append, List.length_nil]; omega) | decide) (by first | omega | (simp only [List.length_append]; omega) | (simp only [List.length_cons, List.length_nil]; omega) | (simp only [List.length_cons, List.length_append, List.length_nil]; omega) | decide)
 replace A3 : ∀ W, (Op.stringOp .add (B8 ((h.nm.data.toList ++ [32, 111, 102, 32, 40]) ++ t1)) ⟨#[41]⟩).run Tryz.prog W = .ok (.string (B8 (((h.nm.data.toList ++ [32, 111, 102, 32, 40]) ++ t1) ++ [41]))) W := A3
 clear l1 l3
 generalize B8 (((h.nm.data.toList ++ [32, 111, 102, 32, 40]) ++ t1) ++ [41]) = s1 at *
 generalize B8 ((h.nm.data.toList ++ [32, 111, 102, 32, 40]) ++ t1) = s2 at *
 generalize B8 (h.nm.data.toList ++ [32, 111, 102, 32, 40]) = s3 at *
 generalize B8 t1 = s4 at *
 have q1 := in_ne (show h.k ≠ 1 by omega)
 have q4 := in_is hk
 replace hk := Lib.hid hk
 unfold exC at *
 go_enter Tryz.func52, Tryz.ntmps52
 go_upto_region 1 with fail
 generalize hw0 : (w.alloc (.cells #[.int .i64 h.k, .string h.op, .string h.nm, .string h.tb, .int .i64 h.vk, .int .i64 h.vn, .string h.vs, .slice ua h.un.length uc, .int .i64 h.pa, .int .i64 h.wk, .int .i64 h.ws, .slice (some ⟨bk, off, none⟩) 1 ac] 29)) = w0 at *
 generalize hg2 : w.heap.size = g2 at G ⊢
 clear hw0 hg2
 have c0 := G.out.cell 0
 simp only [List.getElem?_toArray, List.getElem?_cons_zero] at c0
 go_upto_region 5 with fail
 clear c0
 refine wp_region_held_drew (S := fun w' => Below w0.heap.size w0 w') (by kernel_rfl) (b0 w0).drew (fun hH => ?_)
 refine held_take (i := 0) (d := 11) (v := ?_) rfl (by kernel_rfl) (by kernel_rfl) (by kernel_rfl) rfl (fun _ _ _ h => h) rfl hH (fun w' hS => ?_) ?_
 rotate_left
 ·go_simp; first | done | with_reducible rfl
 simp only [List.set_cons_zero, List.set_cons_succ]
 refine held_take (i := 1) (d := 12) (v := ?_) rfl (by kernel_rfl) (by kernel_rfl) (by kernel_rfl) rfl (fun _ _ _ h => h) rfl hH (fun w' hS => ?_) ?_
 rotate_left
 ·have m2 := (G.out.keeps hS).cell 2; simp only [List.getElem?_toArray, List.getElem?_cons_zero, List.getElem?_cons_succ] at m2; go_simp; first | done | with_reducible rfl
 simp only [List.set_cons_zero, List.set_cons_succ]
 refine held_take (i := 2) (d := 13) (v := ?_) rfl (by kernel_rfl) (by kernel_rfl) (by kernel_rfl) rfl (fun _ _ _ h => h) rfl hH (fun w' hS => ?_) ?_
 rotate_left
 ·have A := A1 w'; go_simp; first | done | (simp only [A]; done) | with_reducible rfl | exact A
 simp only [List.set_cons_zero, List.set_cons_succ]
 refine held_take (i := 3) (d := 14) (v := ?_) rfl (by kernel_rfl) (by kernel_rfl) (by kernel_rfl) rfl (fun _ _ _ h => h) rfl hH (fun w' hS => ?_) ?_
 rotate_left
 ·go_simp; first | done | with_reducible rfl
 simp only [List.set_cons_zero, List.set_cons_succ]
 refine held_take (i := 4) (d := 15) (v := ?_) rfl (by kernel_rfl) (by kernel_rfl) (by kernel_rfl) rfl (fun _ _ _ h => h) rfl hH (fun w' hS => ?_) ?_
 rotate_left
 ·have m11 := (G.out.keeps hS).cell 11; simp only [List.getElem?_toArray, List.getElem?_cons_zero, List.getElem?_cons_succ] at m11; go_simp; first | done | with_reducible rfl
 simp only [List.set_cons_zero, List.set_cons_succ]
 refine held_take (i := 5) (d := 16) (v := ?_) rfl (by kernel_rfl) (by kernel_rfl) (by kernel_rfl) rfl (fun _ _ _ h => h) rfl hH (fun w' hS => ?_) ?_
 rotate_left
 ·go_simp; first | done | with_reducible rfl
 simp only [List.set_cons_zero, List.set_cons_succ]
 refine held_take (i := 6) (d := 17) (v := .agg #[.int .i64 p.h.k, .string p.h.op, .string p.h.nm, .string p.h.tb, .int .i64 p.h.vk, .int .i64 p.h.vn, .string p.h.vs, .slice va1 p.h.un.length vc1, .int .i64 p.h.pa, .int .i64 p.h.wk, .int .i64 p.h.ws, .slice wa1 p.ar.len wc1]) rfl (by kernel_rfl) (by kernel_rfl) (by kernel_rfl) rfl (fun _ _ _ h => h) rfl hH (fun w' hS => yield_loadM infX Tryz.underlying29 rfl (.tmp 16) rfl bk (off + 0) #[.int .i64 p.h.k, .string p.h.op, .string p.h.nm, .string p.h.tb, .int .i64 p.h.vk, .int .i64 p.h.vn, .string p.h.vs, .slice va1 p.h.un.length vc1, .int .i64 p.h.pa, .int .i64 p.h.wk, .int .i64 p.h.ws, .slice wa1 p.ar.len wc1] rfl (range_keeps R1.out hS) rfl) ?_
 simp only [List.set_cons_zero, List.set_cons_succ]
 generalize w0.drew = yy at *
 refine held_only (i := 7) rfl (by kernel_rfl) rfl (fun K hK => ?_)
 go_simp
 refine (C1.out _ (bnext B0.out hH)).mono ?_
 rintro e y51 ⟨rfl, b51⟩
 skip
 refine hK.out _ _ (bnext hH b51) (fun hH => ?_)
 clear hK K
 clear b51
 refine held_take (i := 8) (d := 19) (v := ?_) rfl (by kernel_rfl) (by kernel_rfl) (by kernel_rfl) rfl (fun _ _ _ h => h) rfl hH (fun w' hS => ?_) ?_
 rotate_left
 ·have A := A2 w'; go_simp; first | done | (simp only [A]; done) | with_reducible rfl | exact A
 simp only [List.set_cons_zero, List.set_cons_succ]
 refine held_take (i := 9) (d := 20) (v := ?_) rfl (by kernel_rfl) (by kernel_rfl) (by kernel_rfl) rfl (fun _ _ _ h => h) rfl hH (fun w' hS => ?_) ?_
 rotate_left
 ·have A := A3 w'; go_simp; first | done | (simp only [A]; done) | with_reducible rfl | exact A
 simp only [List.set_cons_zero, List.set_cons_succ]
 refine held_take (i := 10) (d := 2) (v := ?_) rfl (by kernel_rfl) (by kernel_rfl) (by kernel_rfl) rfl (fun _ _ _ h => h) rfl hH (fun w' hS => ?_) ?_
 rotate_left
 ·go_simp; first | done | with_reducible rfl
 simp only [List.set_cons_zero, List.set_cons_succ]
 refine wpAnyH_done (by kernel_rfl) ?_ _
 go_wp2_with fail
 go_ret
 exact sr_of rfl (bnext B0.out hH)
theorem rtx_if (h : Hd) (ua : Option Addr) (bk off : Nat) (uc ac : Nat) (p : Ex) (va1 wa1 : Option Addr) (vc1 wc1 : Nat) (q : Ex) (va2 wa2 : Option Addr) (vc2 wc2 : Nat) (z : Ex) (va3 wa3 : Option Addr) (vc3 wc3 : Nat) (w : World) (hR1 : w.rangeAt bk (off + 0) (exC p.h p.ar.len va1 vc1 wa1 wc1).toList) (hR2 : w.rangeAt bk (off + 12) (exC q.h q.ar.len va2 vc2 wa2 wc2).toList) (hR3 : w.rangeAt bk (off + 24) (exC z.h z.ar.len va3 vc3 wa3 wc3).toList) (t1 t2 t3 : List UInt8) (l1 : t1.length ≤ 1000000) (l2 : t2.length ≤ 1000000) (l3 : t3.length ≤ 1000000) (hk : h.k = 8) (C1 : ∀ W, Below w.heap.size w W → Calls Tryz.prog 52 #[.agg (exC p.h p.ar.len va1 vc1 wa1 wc1)] W (Sr (B8 (t1)) W)) (C2 : ∀ W, Below w.heap.size w W → Calls Tryz.prog 52 #[.agg (exC q.h q.ar.len va2 vc2 wa2 wc2)] W (Sr (B8 (t2)) W)) (C3 : ∀ W, Below w.heap.size w W → Calls Tryz.prog 52 #[.agg (exC z.h z.ar.len va3 vc3 wa3 wc3)] W (Sr (B8 (t3)) W)) : Calls Tryz.prog 52 #[.agg (exC h 3 ua uc (some ⟨bk, off, none⟩) ac)] w (Sr (B8 ((((([105, 102, 32] ++ t1) ++ [32, 116, 104, 101, 110, 32]) ++ t2) ++ [32, 101, 108, 115, 101, 32]) ++ t3)) w) := by
 have bb := balloc (b0 w) (.cells (exC h 3 ua uc (some ⟨bk, off, none⟩) ac) 29)
 have B0 := Lib.hid bb
 have G := Lib.hid (Blk.new w 29 (exC h 3 ua uc (some ⟨bk, off, none⟩) ac))
 have R1 := Lib.hid (range_keeps hR1 bb)
 have R2 := Lib.hid (range_keeps hR2 bb)
 have R3 := Lib.hid (range_keeps hR3 bb)
 replace C1 := Lib.hid C1
 replace C2 := Lib.hid C2
 replace C3 := Lib.hid C3
 clear bb hR1 hR2 hR3
 have A1 := add_b8 ([105, 102, 32]) (t1) (by first | omega | (simp only [List.length_append]; omega) | (simp only [List.length_cons, List.length_nil]; omega) | (simp only [List.length_cons, List.length_append, List.length_nil]; omega) | decide) (by first | omega | (simp only [List.length_append]; omega) | (simp only [List.length_cons, List.length_nil]; omega) | (simp only [List.length_cons, List.length_append, List.length_nil]; omega) | decide)
 replace A1 : ∀ W, (Op.stringOp .add ⟨#[105, 102, 32]⟩ (B8 t1)).run Tryz.prog W = .ok (.string (B8 ([105, 102, 32] ++ t1))) W := A1
 have A2 := add_b8 (([105, 102, 32] ++ t1)) ([32, 116, 104, 101, 110, 32]) (by first | omega | (simp only [List.length_append]; omega) | (simp only [List.length_cons, List.length_nil]; omega) | (simp only [List.length_cons, List.length_append, List.length_nil]; omega) | decide) (by first | omega | (simp only [List.length_append]; omega) | (simp only [List.length_cons, List.length_nil]; omega) | (simp only [List.length_cons, List.length_append, List.length_nil]; omega) | decide)
 replace A2 : ∀ W, (Op.stringOp .add (B8 ([105, 102, 32] ++ t1)) ⟨#[32, 116, 104, 101, 110, 32]⟩).run Tryz.prog W = .ok (.string (B8 (([105, 102, 32] ++ t1) ++ [32, 116, 104, 101, 110, 32]))) W := A2
 have A3 := add_b8 ((([105, 102, 32] ++ t1) ++ [32, 116, 104, 101, 110, 32])) (t2) (by first | omega | (simp only [List.length_append]; omega) | (simp only [List.length_cons, List.length_nil]; omega) | (simp only [List.length_cons, List.length_append, List.length_nil]; omega) | decide) (by first | omega | (simp only [List.length_append]; omega) | (simp only [List.length_cons, List.length_nil]; omega) | (simp only [List.length_cons, List.length_append, List.length_nil]; omega) | decide)
 replace A3 : ∀ W, (Op.stringOp .add (B8 (([105, 102, 32] ++ t1) ++ [32, 116, 104, 101, 110, 32])) (B8 t2)).run Tryz.prog W = .ok (.string (B8 ((([105, 102, 32] ++ t1) ++ [32, 116, 104, 101, 110, 32]) ++ t2))) W := A3
 have A4 := add_b8 (((([105, 102, 32] ++ t1) ++ [32, 116, 104, 101, 110, 32]) ++ t2)) ([32, 101, 108, 115, 101, 32]) (by first | omega | (simp only [List.length_append]; omega) | (simp only [List.length_cons, List.length_nil]; omega) | (simp only [List.length_cons, List.length_append, List.length_nil]; omega) | decide) (by first | omega | (simp only [List.length_append]; omega) | (simp only [List.length_cons, List.length_nil]; omega) | (simp only [List.length_cons, List.length_append, List.length_nil]; omega) | decide)
 replace A4 : ∀ W, (Op.stringOp .add (B8 ((([105, 102, 32] ++ t1) ++ [32, 116, 104, 101, 110, 32]) ++ t2)) ⟨#[32, 101, 108, 115, 101, 32]⟩).run Tryz.prog W = .ok (.string (B8 (((([105, 102, 32] ++ t1) ++ [32, 116, 104, 101, 110, 32]) ++ t2) ++ [32, 101, 108, 115, 101, 32]))) W := A4
 have A5 := add_b8 ((((([105, 102, 32] ++ t1) ++ [32, 116, 104, 101, 110, 32]) ++ t2) ++ [32, 101, 108, 115, 101, 32])) (t3) (by first | omega | (simp only [List.length_append]; omega) | (simp only [List.length_cons, List.length_nil]; omega) | (simp only [List.length_cons, List.length_append, List.length_nil]; omega) | decide) (by first | omega | (simp only [List.length_append]; omega) | (simp only [List.length_cons, List.length_nil]; omega) | (simp only [List.length_cons, List.length_append, List.length_nil]; omega) | decide)
 replace A5 : ∀ W, (Op.stringOp .add (B8 (((([105, 102, 32] ++ t1) ++ [32, 116, 104, 101, 110, 32]) ++ t2) ++ [32, 101, 108, 115, 101, 32])) (B8 t3)).run Tryz.prog W = .ok (.string (B8 ((((([105, 102, 32] ++ t1) ++ [32, 116, 104, 101, 110, 32]) ++ t2) ++ [32, 101, 108, 115, 101, 32]) ++ t3))) W := A5
 clear l1 l2 l3
 generalize B8 ((((([105, 102, 32] ++ t1) ++ [32, 116, 104, 101, 110, 32]) ++ t2) ++ [32, 101, 108, 115, 101, 32]) ++ t3) = s1 at *
 generalize B8 (((([105, 102, 32] ++ t1) ++ [32, 116, 104, 101, 110, 32]) ++ t2) ++ [32, 101, 108, 115, 101, 32]) = s2 at *
 generalize B8 ((([105, 102, 32] ++ t1) ++ [32, 116, 104, 101, 110, 32]) ++ t2) = s3 at *
 generalize B8 (([105, 102, 32] ++ t1) ++ [32, 116, 104, 101, 110, 32]) = s4 at *
 generalize B8 ([105, 102, 32] ++ t1) = s5 at *
 generalize B8 t1 = s6 at *
 generalize B8 t2 = s7 at *
 generalize B8 t3 = s8 at *
 have q1 := in_ne (show h.k ≠ 1 by omega)
 have q4 := in_ne (show h.k ≠ 4 by omega)
 have q5 := in_ne (show h.k ≠ 5 by omega)
 have q6 := in_ne (show h.k ≠ 6 by omega)
 have q7 := in_ne (show h.k ≠ 7 by omega)
 have q8 := in_is hk
 replace hk := Lib.hid hk
 unfold exC at *
 go_enter Tryz.func52, Tryz.ntmps52
 go_upto_region 1 with fail
 generalize hw0 : (w.alloc (.cells #[.int .i64 h.k, .string h.op, .string h.nm, .string h.tb, .int .i64 h.vk, .int .i64 h.vn, .string h.vs, .slice ua h.un.length uc, .int .i64 h.pa, .int .i64 h.wk, .int .i64 h.ws, .slice (some ⟨bk, off, none⟩) 3 ac] 29)) = w0 at *
 generalize hg2 : w.heap.size = g2 at G ⊢
 clear hw0 hg2
 have c0 := G.out.cell 0
 simp only [List.getElem?_toArray, List.getElem?_cons_zero] at c0
 go_upto_region 13 with fail
 clear c0
 refine wp_region_held_drew (S := fun w' => Below w0.heap.size w0 w') (by kernel_rfl) (b0 w0).drew (fun hH => ?_)
 refine held_take (i := 0) (d := 35) (v := ?_) rfl (by kernel_rfl) (by kernel_rfl) (by kernel_rfl) rfl (fun _ _ _ h => h) rfl hH (fun w' hS => ?_) ?_
 rotate_left
 ·go_simp; first | done | with_reducible rfl
 simp only [List.set_cons_zero, List.set_cons_succ]
 refine held_take (i := 1) (d := 36) (v := ?_) rfl (by kernel_rfl) (by kernel_rfl) (by kernel_rfl) rfl (fun _ _ _ h => h) rfl hH (fun w' hS => ?_) ?_
 rotate_left
 ·have m11 := (G.out.keeps hS).cell 11; simp only [List.getElem?_toArray, List.getElem?_cons_zero, List.getElem?_cons_succ] at m11; go_simp; first | done | with_reducible rfl
 simp only [List.set_cons_zero, List.set_cons_succ]
 refine held_take (i := 2) (d := 37) (v := ?_) rfl (by kernel_rfl) (by kernel_rfl) (by kernel_rfl) rfl (fun _ _ _ h => h) rfl hH (fun w' hS => ?_) ?_
 rotate_left
 ·go_simp; first | done | with_reducible rfl
 simp only [List.set_cons_zero, List.set_cons_succ]
 refine held_take (i := 3) (d := 38) (v := .agg #[.int .i64 p.h.k, .string p.h.op, .string p.h.nm, .string p.h.tb, .int .i64 p.h.vk, .int .i64 p.h.vn, .string p.h.vs, .slice va1 p.h.un.length vc1, .int .i64 p.h.pa, .int .i64 p.h.wk, .int .i64 p.h.ws, .slice wa1 p.ar.len wc1]) rfl (by kernel_rfl) (by kernel_rfl) (by kernel_rfl) rfl (fun _ _ _ h => h) rfl hH (fun w' hS => yield_loadM infX Tryz.underlying29 rfl (.tmp 37) rfl bk (off + 0) #[.int .i64 p.h.k, .string p.h.op, .string p.h.nm, .string p.h.tb, .int .i64 p.h.vk, .int .i64 p.h.vn, .string p.h.vs, .slice va1 p.h.un.length vc1, .int .i64 p.h.pa, .int .i64 p.h.wk, .int .i64 p.h.ws, .slice wa1 p.ar.len wc1] rfl (range_keeps R1.out hS) rfl) ?_
 simp only [List.set_cons_zero, List.set_cons_succ]
 refine held_take (i := 7) (d := 42) (v := ?_) rfl (by kernel_rfl) (by kernel_rfl) (by kernel_rfl) rfl (fun _ _ _ h => h) rfl hH (fun w' hS => ?_) ?_
 rotate_left
 ·go_simp; first | done | with_reducible rfl
 simp only [List.set_cons_zero, List.set_cons_succ]
 refine held_take (i := 8) (d := 43) (v := ?_) rfl (by kernel_rfl) (by kernel_rfl) (by kernel_rfl) rfl (fun _ _ _ h => h) rfl hH (fun w' hS => ?_) ?_
 rotate_left
 ·have m11 := (G.out.keeps hS).cell 11; simp only [List.getElem?_toArray, List.getElem?_cons_zero, List.getElem?_cons_succ] at m11; go_simp; first | done | with_reducible rfl
 simp only [List.set_cons_zero, List.set_cons_succ]
 refine held_take (i := 9) (d := 44) (v := ?_) rfl (by kernel_rfl) (by kernel_rfl) (by kernel_rfl) rfl (fun _ _ _ h => h) rfl hH (fun w' hS => ?_) ?_
 rotate_left
 ·go_simp; first | done | with_reducible rfl
 simp only [List.set_cons_zero, List.set_cons_succ]
 refine held_take (i := 10) (d := 45) (v := .agg #[.int .i64 q.h.k, .string q.h.op, .string q.h.nm, .string q.h.tb, .int .i64 q.h.vk, .int .i64 q.h.vn, .string q.h.vs, .slice va2 q.h.un.length vc2, .int .i64 q.h.pa, .int .i64 q.h.wk, .int .i64 q.h.ws, .slice wa2 q.ar.len wc2]) rfl (by kernel_rfl) (by kernel_rfl) (by kernel_rfl) rfl (fun _ _ _ h => h) rfl hH (fun w' hS => yield_loadM infX Tryz.underlying29 rfl (.tmp 44) rfl bk (off + 12) #[.int .i64 q.h.k, .string q.h.op, .string q.h.nm, .string q.h.tb, .int .i64 q.h.vk, .int .i64 q.h.vn, .string q.h.vs, .slice va2 q.h.un.length vc2, .int .i64 q.h.pa, .int .i64 q.h.wk, .int .i64 q.h.ws, .slice wa2 q.ar.len wc2] rfl (range_keeps R2.out hS) rfl) ?_
 simp only [List.set_cons_zero, List.set_cons_succ]
 refine held_take (i := 14) (d := 49) (v := ?_) rfl (by kernel_rfl) (by kernel_rfl) (by kernel_rfl) rfl (fun _ _ _ h => h) rfl hH (fun w' hS => ?_) ?_
 rotate_left
 ·go_simp; first | done | with_reducible rfl
 simp only [List.set_cons_zero, List.set_cons_succ]
 refine held_take (i := 15) (d := 50) (v := ?_) rfl (by kernel_rfl) (by kernel_rfl) (by kernel_rfl) rfl (fun _ _ _ h => h) rfl hH (fun w' hS => ?_) ?_
 rotate_left
 ·have m11 := (G.out.keeps hS).cell 11; simp only [List.getElem?_toArray, List.getElem?_cons_zero, List.getElem?_cons_succ] at m11; go_simp; first | done | with_reducible rfl
 simp only [List.set_cons_zero, List.set_cons_succ]
 refine held_take (i := 16) (d := 51) (v := ?_) rfl (by kernel_rfl) (by kernel_rfl) (by kernel_rfl) rfl (fun _ _ _ h => h) rfl hH (fun w' hS => ?_) ?_
 rotate_left
 ·go_simp; first | done | with_reducible rfl
 simp only [List.set_cons_zero, List.set_cons_succ]
 refine held_take (i := 17) (d := 52) (v := .agg #[.int .i64 z.h.k, .string z.h.op, .string z.h.nm, .string z.h.tb, .int .i64 z.h.vk, .int .i64 z.h.vn, .string z.h.vs, .slice va3 z.h.un.length vc3, .int .i64 z.h.pa, .int .i64 z.h.wk, .int .i64 z.h.ws, .slice wa3 z.ar.len wc3]) rfl (by kernel_rfl) (by kernel_rfl) (by kernel_rfl) rfl (fun _ _ _ h => h) rfl hH (fun w' hS => yield_loadM infX Tryz.underlying29 rfl (.tmp 51) rfl bk (off + 24) #[.int .i64 z.h.k, .string z.h.op, .string z.h.nm, .string z.h.tb, .int .i64 z.h.vk, .int .i64 z.h.vn, .string z.h.vs, .slice va3 z.h.un.length vc3, .int .i64 z.h.pa, .int .i64 z.h.wk, .int .i64 z.h.ws, .slice wa3 z.ar.len wc3] rfl (range_keeps R3.out hS) rfl) ?_
 simp only [List.set_cons_zero, List.set_cons_succ]
 generalize w0.drew = yy at *
 refine held_only (i := 4) rfl (by kernel_rfl) rfl (fun K hK => ?_)
 go_simp
 refine (C1.out _ (bnext B0.out hH)).mono ?_
 rintro e y131 ⟨rfl, b131⟩
 skip
 refine hK.out _ _ (bnext hH b131) (fun hH => ?_)
 clear hK K
 clear b131
 refine held_take (i := 5) (d := 40) (v := ?_) rfl (by kernel_rfl) (by kernel_rfl) (by kernel_rfl) rfl (fun _ _ _ h => h) rfl hH (fun w' hS => ?_) ?_
 rotate_left
 ·have A := A1 w'; go_simp; first | done | (simp only [A]; done) | with_reducible rfl | exact A
 simp only [List.set_cons_zero, List.set_cons_succ]
 refine held_take (i := 6) (d := 41) (v := ?_) rfl (by kernel_rfl) (by kernel_rfl) (by kernel_rfl) rfl (fun _ _ _ h => h) rfl hH (fun w' hS => ?_) ?_
 rotate_left
 ·have A := A2 w'; go_simp; first | done | (simp only [A]; done) | with_reducible rfl | exact A
 simp only [List.set_cons_zero, List.set_cons_succ]
 refine held_only (i := 11) rfl (by kernel_rfl) rfl (fun K hK => ?_)
 go_simp
 refine (C2.out _ (bnext B0.out hH)).mono ?_
 rintro e y132 ⟨rfl, b132⟩
 skip
 refine hK.out _ _ (bnext hH b132) (fun hH => ?_)
 clear hK K
 clear b132
 refine held_take (i := 12) (d := 47) (v := ?_) rfl (by kernel_rfl) (by kernel_rfl) (by kernel_rfl) rfl (fun _ _ _ h => h) rfl hH (fun w' hS => ?_) ?_
 rotate_left
 ·have A := A3 w'; go_simp; first | done | (simp only [A]; done) | with_reducible rfl | exact A
 simp only [List.set_cons_zero, List.set_cons_succ]
 refine held_take (i := 13) (d := 48) (v := ?_) rfl (by kernel_rfl) (by kernel_rfl) (by kernel_rfl) rfl (fun _ _ _ h => h) rfl hH (fun w' hS => ?_) ?_
 rotate_left
 ·have A := A4 w'; go_simp; first | done | (simp only [A]; done) | with_reducible rfl | exact A
 simp only [List.set_cons_zero, List.set_cons_succ]
 refine held_only (i := 18) rfl (by kernel_rfl) rfl (fun K hK => ?_)
 go_simp
 refine (C3.out _ (bnext B0.out hH)).mono ?_
 rintro e y133 ⟨rfl, b133⟩
 skip
 refine hK.out _ _ (bnext hH b133) (fun hH => ?_)
 clear hK K
 clear b133
 refine held_take (i := 19) (d := 54) (v := ?_) rfl (by kernel_rfl) (by kernel_rfl) (by kernel_rfl) rfl (fun _ _ _ h => h) rfl hH (fun w' hS => ?_) ?_
 rotate_left
 ·have A := A5 w'; go_simp; first | done | (simp only [A]; done) | with_reducible rfl | exact A
 simp only [List.set_cons_zero, List.set_cons_succ]
 refine held_take (i := 20) (d := 2) (v := ?_) rfl (by kernel_rfl) (by kernel_rfl) (by kernel_rfl) rfl (fun _ _ _ h => h) rfl hH (fun w' hS => ?_) ?_
 rotate_left
 ·go_simp; first | done | with_reducible rfl
 simp only [List.set_cons_zero, List.set_cons_succ]
 refine wpAnyH_done (by kernel_rfl) ?_ _
 go_wp2_with fail
 go_ret
 exact sr_of rfl (bnext B0.out hH)
theorem rtx_dfl (h : Hd) (ua : Option Addr) (bk off : Nat) (uc ac : Nat) (p : Ex) (va1 wa1 : Option Addr) (vc1 wc1 : Nat) (q : Ex) (va2 wa2 : Option Addr) (vc2 wc2 : Nat) (w : World) (hR1 : w.rangeAt bk (off + 0) (exC p.h p.ar.len va1 vc1 wa1 wc1).toList) (hR2 : w.rangeAt bk (off + 12) (exC q.h q.ar.len va2 vc2 wa2 wc2).toList) (t1 t2 : List UInt8) (l1 : t1.length ≤ 1000000) (l2 : t2.length ≤ 1000000) (hk : h.k = 9) (C1 : ∀ W, Below w.heap.size w W → Calls Tryz.prog 112 #[.agg (exC p.h p.ar.len va1 vc1 wa1 wc1), .int .i64 1] W (Sr (B8 (t1)) W)) (C2 : ∀ W, Below w.heap.size w W → Calls Tryz.prog 112 #[.agg (exC q.h q.ar.len va2 vc2 wa2 wc2), .int .i64 2] W (Sr (B8 (t2)) W)) : Calls Tryz.prog 52 #[.agg (exC h 2 ua uc (some ⟨bk, off, none⟩) ac)] w (Sr (B8 ((t1 ++ [32, 100, 101, 102, 97, 117, 108, 116, 32]) ++ t2)) w) := by
 have bb := balloc (b0 w) (.cells (exC h 2 ua uc (some ⟨bk, off, none⟩) ac) 29)
 have B0 := Lib.hid bb
 have G := Lib.hid (Blk.new w 29 (exC h 2 ua uc (some ⟨bk, off, none⟩) ac))
 have R1 := Lib.hid (range_keeps hR1 bb)
 have R2 := Lib.hid (range_keeps hR2 bb)
 replace C1 := Lib.hid C1
 replace C2 := Lib.hid C2
 clear bb hR1 hR2
 have A1 := add_b8 (t1) ([32, 100, 101, 102, 97, 117, 108, 116, 32]) (by first | omega | (simp only [List.length_append]; omega) | (simp only [List.length_cons, List.length_nil]; omega) | (simp only [List.length_cons, List.length_append, List.length_nil]; omega) | decide) (by first | omega | (simp only [List.length_append]; omega) | (simp only [List.length_cons, List.length_nil]; omega) | (simp only [List.length_cons, List.length_append, List.length_nil]; omega) | decide)
 replace A1 : ∀ W, (Op.stringOp .add (B8 t1) ⟨#[32, 100, 101, 102, 97, 117, 108, 116, 32]⟩).run Tryz.prog W = .ok (.string (B8 (t1 ++ [32, 100, 101, 102, 97, 117, 108, 116, 32]))) W := A1
 have A2 := add_b8 ((t1 ++ [32, 100, 101, 102, 97, 117, 108, 116, 32])) (t2) (by first | omega | (simp only [List.length_append]; omega) | (simp only [List.length_cons, List.length_nil]; omega) | (simp only [List.length_cons, List.length_append, List.length_nil]; omega) | decide) (by first | omega | (simp only [List.length_append]; omega) | (simp only [List.length_cons, List.length_nil]; omega) | (simp only [List.length_cons, List.length_append, List.length_nil]; omega) | decide)
 replace A2 : ∀ W, (Op.stringOp .add (B8 (t1 ++ [32, 100, 101, 102, 97, 117, 108, 116, 32])) (B8 t2)).run Tryz.prog W = .ok (.string (B8 ((t1 ++ [32, 100, 101, 102, 97, 117, 108, 116, 32]) ++ t2))) W := A2
 clear l1 l2
 generalize B8 ((t1 ++ [32, 100, 101, 102, 97, 117, 108, 116, 32]) ++ t2) = s1 at *
 generalize B8 (t1 ++ [32, 100, 101, 102, 97, 117, 108, 116, 32]) = s2 at *
 generalize B8 t1 = s3 at *
 generalize B8 t2 = s4 at *
 have q1 := in_ne (show h.k ≠ 1 by omega)
 have q4 := in_ne (show h.k ≠ 4 by omega)
 have q5 := in_ne (show h.k ≠ 5 by omega)
 have q6 := in_ne (show h.k ≠ 6 by omega)
 have q7 := in_ne (show h.k ≠ 7 by omega)
 have q8 := in_ne (show h.k ≠ 8 by omega)
 have q9 := in_is hk
 replace hk := Lib.hid hk
 unfold exC at *
 go_enter Tryz.func52, Tryz.ntmps52
 go_upto_region 1 with fail
 generalize hw0 : (w.alloc (.cells #[.int .i64 h.k, .string h.op, .string h.nm, .string h.tb, .int .i64 h.vk, .int .i64 h.vn, .string h.vs, .slice ua h.un.length uc, .int .i64 h.pa, .int .i64 h.wk, .int .i64 h.ws, .slice (some ⟨bk, off, none⟩) 2 ac] 29)) = w0 at *
 generalize hg2 : w.heap.size = g2 at G ⊢
 clear hw0 hg2
 have c0 := G.out.cell 0
 simp only [List.getElem?_toArray, List.getElem?_cons_zero] at c0
 go_upto_region 15 with fail
 clear c0
 refine wp_region_held_drew (S := fun w' => Below w0.heap.size w0 w') (by kernel_rfl) (b0 w0).drew (fun hH => ?_)
 refine held_take (i := 0) (d := 57) (v := ?_) rfl (by kernel_rfl) (by kernel_rfl) (by kernel_rfl) rfl (fun _ _ _ h => h) rfl hH (fun w' hS => ?_) ?_
 rotate_left
 ·go_simp; first | done | with_reducible rfl
 simp only [List.set_cons_zero, List.set_cons_succ]
 refine held_take (i := 1) (d := 58) (v := ?_) rfl (by kernel_rfl) (by kernel_rfl) (by kernel_rfl) rfl (fun _ _ _ h => h) rfl hH (fun w' hS => ?_) ?_
 rotate_left
 ·have m11 := (G.out.keeps hS).cell 11; simp only [List.getElem?_toArray, List.getElem?_cons_zero, List.getElem?_cons_succ] at m11; go_simp; first | done | with_reducible rfl
 simp only [List.set_cons_zero, List.set_cons_succ]
 refine held_take (i := 2) (d := 59) (v := ?_) rfl (by kernel_rfl) (by kernel_rfl) (by kernel_rfl) rfl (fun _ _ _ h => h) rfl hH (fun w' hS => ?_) ?_
 rotate_left
 ·go_simp; first | done | with_reducible rfl
 simp only [List.set_cons_zero, List.set_cons_succ]
 refine held_take (i := 3) (d := 60) (v := .agg #[.int .i64 p.h.k, .string p.h.op, .string p.h.nm, .string p.h.tb, .int .i64 p.h.vk, .int .i64 p.h.vn, .string p.h.vs, .slice va1 p.h.un.length vc1, .int .i64 p.h.pa, .int .i64 p.h.wk, .int .i64 p.h.ws, .slice wa1 p.ar.len wc1]) rfl (by kernel_rfl) (by kernel_rfl) (by kernel_rfl) rfl (fun _ _ _ h => h) rfl hH (fun w' hS => yield_loadM infX Tryz.underlying29 rfl (.tmp 59) rfl bk (off + 0) #[.int .i64 p.h.k, .string p.h.op, .string p.h.nm, .string p.h.tb, .int .i64 p.h.vk, .int .i64 p.h.vn, .string p.h.vs, .slice va1 p.h.un.length vc1, .int .i64 p.h.pa, .int .i64 p.h.wk, .int .i64 p.h.ws, .slice wa1 p.ar.len wc1] rfl (range_keeps R1.out hS) rfl) ?_
 simp only [List.set_cons_zero, List.set_cons_succ]
 refine held_take (i := 6) (d := 63) (v := ?_) rfl (by kernel_rfl) (by kernel_rfl) (by kernel_rfl) rfl (fun _ _ _ h => h) rfl hH (fun w' hS => ?_) ?_
 rotate_left
 ·go_simp; first | done | with_reducible rfl
 simp only [List.set_cons_zero, List.set_cons_succ]
 refine held_take (i := 7) (d := 64) (v := ?_) rfl (by kernel_rfl) (by kernel_rfl) (by kernel_rfl) rfl (fun _ _ _ h => h) rfl hH (fun w' hS => ?_) ?_
 rotate_left
 ·have m11 := (G.out.keeps hS).cell 11; simp only [List.getElem?_toArray, List.getElem?_cons_zero, List.getElem?_cons_succ] at m11; go_simp; first | done | with_reducible rfl
 simp only [List.set_cons_zero, List.set_cons_succ]
 refine held_take (i := 8) (d := 65) (v := ?_) rfl (by kernel_rfl) (by kernel_rfl) (by kernel_rfl) rfl (fun _ _ _ h => h) rfl hH (fun w' hS => ?_) ?_
 rotate_left
 ·go_simp; first | done | with_reducible rfl
 simp only [List.set_cons_zero, List.set_cons_succ]
 refine held_take (i := 9) (d := 66) (v := .agg #[.int .i64 q.h.k, .string q.h.op, .string q.h.nm, .string q.h.tb, .int .i64 q.h.vk, .int .i64 q.h.vn, .string q.h.vs, .slice va2 q.h.un.length vc2, .int .i64 q.h.pa, .int .i64 q.h.wk, .int .i64 q.h.ws, .slice wa2 q.ar.len wc2]) rfl (by kernel_rfl) (by kernel_rfl) (by kernel_rfl) rfl (fun _ _ _ h => h) rfl hH (fun w' hS => yield_loadM infX Tryz.underlying29 rfl (.tmp 65) rfl bk (off + 12) #[.int .i64 q.h.k, .string q.h.op, .string q.h.nm, .string q.h.tb, .int .i64 q.h.vk, .int .i64 q.h.vn, .string q.h.vs, .slice va2 q.h.un.length vc2, .int .i64 q.h.pa, .int .i64 q.h.wk, .int .i64 q.h.ws, .slice wa2 q.ar.len wc2] rfl (range_keeps R2.out hS) rfl) ?_
 simp only [List.set_cons_zero, List.set_cons_succ]
 generalize w0.drew = yy at *
 refine held_only (i := 4) rfl (by kernel_rfl) rfl (fun K hK => ?_)
 go_simp
 refine (C1.out _ (bnext B0.out hH)).mono ?_
 rintro e y151 ⟨rfl, b151⟩
 skip
 refine hK.out _ _ (bnext hH b151) (fun hH => ?_)
 clear hK K
 clear b151
 refine held_take (i := 5) (d := 62) (v := ?_) rfl (by kernel_rfl) (by kernel_rfl) (by kernel_rfl) rfl (fun _ _ _ h => h) rfl hH (fun w' hS => ?_) ?_
 rotate_left
 ·have A := A1 w'; go_simp; first | done | (simp only [A]; done) | with_reducible rfl | exact A
 simp only [List.set_cons_zero, List.set_cons_succ]
 refine held_only (i := 10) rfl (by kernel_rfl) rfl (fun K hK => ?_)
 go_simp
 refine (C2.out _ (bnext B0.out hH)).mono ?_
 rintro e y152 ⟨rfl, b152⟩
 skip
 refine hK.out _ _ (bnext hH b152) (fun hH => ?_)
 clear hK K
 clear b152
 refine held_take (i := 11) (d := 68) (v := ?_) rfl (by kernel_rfl) (by kernel_rfl) (by kernel_rfl) rfl (fun _ _ _ h => h) rfl hH (fun w' hS => ?_) ?_
 rotate_left
 ·have A := A2 w'; go_simp; first | done | (simp only [A]; done) | with_reducible rfl | exact A
 simp only [List.set_cons_zero, List.set_cons_succ]
 refine held_take (i := 12) (d := 2) (v := ?_) rfl (by kernel_rfl) (by kernel_rfl) (by kernel_rfl) rfl (fun _ _ _ h => h) rfl hH (fun w' hS => ?_) ?_
 rotate_left
 ·go_simp; first | done | with_reducible rfl
 simp only [List.set_cons_zero, List.set_cons_succ]
 refine wpAnyH_done (by kernel_rfl) ?_ _
 go_wp2_with fail
 go_ret
 exact sr_of rfl (bnext B0.out hH)
theorem rtx_lit (h : Hd) (n : Nat) (ua aa : Option Addr) (uc ac : Nat) (w : World) (u : ByteArray) (hk : h.k = 1) (hC : ∀ W, Below w.heap.size w W → Calls Tryz.prog 108 #[.agg (exC h n ua uc aa ac)] W (Sr u W)) : Calls Tryz.prog 52 #[.agg (exC h n ua uc aa ac)] w (Sr u w) := by
 have bb := balloc (b0 w) (.cells (exC h n ua uc aa ac) 29)
 have B0 := Lib.hid bb
 have G := Lib.hid (Blk.new w 29 (exC h n ua uc aa ac))
 replace hC := Lib.hid hC
 clear bb
 have qk := in_is hk
 replace hk := Lib.hid hk
 unfold exC at *
 go_enter Tryz.func52, Tryz.ntmps52
 go_upto_region 1 with fail
 generalize hw0 : (w.alloc (.cells #[.int .i64 h.k, .string h.op, .string h.nm, .string h.tb, .int .i64 h.vk, .int .i64 h.vn, .string h.vs, .slice ua h.un.length uc, .int .i64 h.pa, .int .i64 h.wk, .int .i64 h.ws, .slice aa n ac] 29)) = w0 at *
 generalize hg2 : w.heap.size = g2 at G ⊢
 clear hw0 hg2
 have c0 := G.out.cell 0
 simp only [List.getElem?_toArray, List.getElem?_cons_zero] at c0
 go_wp2_with (refine arm_loadT infX Tryz.underlying29 rfl (.tmp 1) rfl rfl _ _ _ rfl G.out rfl ?_)
 refine (hC.out _ B0.out).mono ?_
 rintro e w1 ⟨rfl, b1⟩
 have B1 := Lib.hid (bnext B0.out b1)
 clear b1 hC c0
 go_wp2_with fail
 go_ret
 exact sr_of rfl B1.out
theorem rtx_agg (h : Hd) (n : Nat) (ua aa : Option Addr) (uc ac : Nat) (w : World) (u : ByteArray) (hk : h.k = 5) (hC : ∀ W, Below w.heap.size w W → Calls Tryz.prog 109 #[.agg (exC h n ua uc aa ac)] W (Sr u W)) : Calls Tryz.prog 52 #[.agg (exC h n ua uc aa ac)] w (Sr u w) := by
 have bb := balloc (b0 w) (.cells (exC h n ua uc aa ac) 29)
 have B0 := Lib.hid bb
 have G := Lib.hid (Blk.new w 29 (exC h n ua uc aa ac))
 replace hC := Lib.hid hC
 clear bb
 have q1 := in_ne (show h.k ≠ 1 by omega)
 have q4 := in_ne (show h.k ≠ 4 by omega)
 have qk := in_is hk
 replace hk := Lib.hid hk
 unfold exC at *
 go_enter Tryz.func52, Tryz.ntmps52
 go_upto_region 1 with fail
 generalize hw0 : (w.alloc (.cells #[.int .i64 h.k, .string h.op, .string h.nm, .string h.tb, .int .i64 h.vk, .int .i64 h.vn, .string h.vs, .slice ua h.un.length uc, .int .i64 h.pa, .int .i64 h.wk, .int .i64 h.ws, .slice aa n ac] 29)) = w0 at *
 generalize hg2 : w.heap.size = g2 at G ⊢
 clear hw0 hg2
 have c0 := G.out.cell 0
 simp only [List.getElem?_toArray, List.getElem?_cons_zero] at c0
 go_wp2_with (refine arm_loadT infX Tryz.underlying29 rfl (.tmp 1) rfl rfl _ _ _ rfl G.out rfl ?_)
 refine (hC.out _ B0.out).mono ?_
 rintro e w1 ⟨rfl, b1⟩
 have B1 := Lib.hid (bnext B0.out b1)
 clear b1 hC c0
 go_wp2_with fail
 go_ret
 exact sr_of rfl B1.out
theorem rtx_una (h : Hd) (n : Nat) (ua aa : Option Addr) (uc ac : Nat) (w : World) (u : ByteArray) (hk : h.k = 6) (hC : ∀ W, Below w.heap.size w W → Calls Tryz.prog 110 #[.agg (exC h n ua uc aa ac)] W (Sr u W)) : Calls Tryz.prog 52 #[.agg (exC h n ua uc aa ac)] w (Sr u w) := by
 have bb := balloc (b0 w) (.cells (exC h n ua uc aa ac) 29)
 have B0 := Lib.hid bb
 have G := Lib.hid (Blk.new w 29 (exC h n ua uc aa ac))
 replace hC := Lib.hid hC
 clear bb
 have q1 := in_ne (show h.k ≠ 1 by omega)
 have q4 := in_ne (show h.k ≠ 4 by omega)
 have q5 := in_ne (show h.k ≠ 5 by omega)
 have qk := in_is hk
 replace hk := Lib.hid hk
 unfold exC at *
 go_enter Tryz.func52, Tryz.ntmps52
 go_upto_region 1 with fail
 generalize hw0 : (w.alloc (.cells #[.int .i64 h.k, .string h.op, .string h.nm, .string h.tb, .int .i64 h.vk, .int .i64 h.vn, .string h.vs, .slice ua h.un.length uc, .int .i64 h.pa, .int .i64 h.wk, .int .i64 h.ws, .slice aa n ac] 29)) = w0 at *
 generalize hg2 : w.heap.size = g2 at G ⊢
 clear hw0 hg2
 have c0 := G.out.cell 0
 simp only [List.getElem?_toArray, List.getElem?_cons_zero] at c0
 go_wp2_with (refine arm_loadT infX Tryz.underlying29 rfl (.tmp 1) rfl rfl _ _ _ rfl G.out rfl ?_)
 refine (hC.out _ B0.out).mono ?_
 rintro e w1 ⟨rfl, b1⟩
 have B1 := Lib.hid (bnext B0.out b1)
 clear b1 hC c0
 go_wp2_with fail
 go_ret
 exact sr_of rfl B1.out
theorem rtx_bin (h : Hd) (n : Nat) (ua aa : Option Addr) (uc ac : Nat) (w : World) (u : ByteArray) (hk : h.k = 7) (hC : ∀ W, Below w.heap.size w W → Calls Tryz.prog 111 #[.agg (exC h n ua uc aa ac)] W (Sr u W)) : Calls Tryz.prog 52 #[.agg (exC h n ua uc aa ac)] w (Sr u w) := by
 have bb := balloc (b0 w) (.cells (exC h n ua uc aa ac) 29)
 have B0 := Lib.hid bb
 have G := Lib.hid (Blk.new w 29 (exC h n ua uc aa ac))
 replace hC := Lib.hid hC
 clear bb
 have q1 := in_ne (show h.k ≠ 1 by omega)
 have q4 := in_ne (show h.k ≠ 4 by omega)
 have q5 := in_ne (show h.k ≠ 5 by omega)
 have q6 := in_ne (show h.k ≠ 6 by omega)
 have qk := in_is hk
 replace hk := Lib.hid hk
 unfold exC at *
 go_enter Tryz.func52, Tryz.ntmps52
 go_upto_region 1 with fail
 generalize hw0 : (w.alloc (.cells #[.int .i64 h.k, .string h.op, .string h.nm, .string h.tb, .int .i64 h.vk, .int .i64 h.vn, .string h.vs, .slice ua h.un.length uc, .int .i64 h.pa, .int .i64 h.wk, .int .i64 h.ws, .slice aa n ac] 29)) = w0 at *
 generalize hg2 : w.heap.size = g2 at G ⊢
 clear hw0 hg2
 have c0 := G.out.cell 0
 simp only [List.getElem?_toArray, List.getElem?_cons_zero] at c0
 go_wp2_with (refine arm_loadT infX Tryz.underlying29 rfl (.tmp 1) rfl rfl _ _ _ rfl G.out rfl ?_)
 refine (hC.out _ B0.out).mono ?_
 rintro e w1 ⟨rfl, b1⟩
 have B1 := Lib.hid (bnext B0.out b1)
 clear b1 hC c0
 go_wp2_with fail
 go_ret
 exact sr_of rfl B1.out
theorem rtx_nam (h : Hd) (n : Nat) (ua aa : Option Addr) (uc ac : Nat) (w : World) (hk : h.k = 2 ∨ h.k = 3) : Calls Tryz.prog 52 #[.agg (exC h n ua uc aa ac)] w (Sr h.nm w) := by
 have bb := balloc (b0 w) (.cells (exC h n ua uc aa ac) 29)
 have B0 := Lib.hid bb
 have G := Lib.hid (Blk.new w 29 (exC h n ua uc aa ac))
 clear bb
 have q1 := in_ne (show h.k ≠ 1 by omega)
 have q4 := in_ne (show h.k ≠ 4 by omega)
 have q5 := in_ne (show h.k ≠ 5 by omega)
 have q6 := in_ne (show h.k ≠ 6 by omega)
 have q7 := in_ne (show h.k ≠ 7 by omega)
 have q8 := in_ne (show h.k ≠ 8 by omega)
 have q9 := in_ne (show h.k ≠ 9 by omega)
 replace hk := Lib.hid hk
 unfold exC at *
 go_enter Tryz.func52, Tryz.ntmps52
 go_upto_region 1 with fail
 generalize hw0 : (w.alloc (.cells #[.int .i64 h.k, .string h.op, .string h.nm, .string h.tb, .int .i64 h.vk, .int .i64 h.vn, .string h.vs, .slice ua h.un.length uc, .int .i64 h.pa, .int .i64 h.wk, .int .i64 h.ws, .slice aa n ac] 29)) = w0 at *
 generalize hg2 : w.heap.size = g2 at G ⊢
 clear hw0 hg2
 have c0 := G.out.cell 0
 have c2 := G.out.cell 2
 simp only [List.getElem?_toArray, List.getElem?_cons_zero, List.getElem?_cons_succ] at c0 c2
 go_wp2_with fail
 go_ret
 exact sr_of rfl B0.out
end Go.Proofs.YtbahfelnbofjjaaGreatDoor.ch

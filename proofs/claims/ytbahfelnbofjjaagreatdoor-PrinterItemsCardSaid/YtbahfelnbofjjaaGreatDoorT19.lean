/-
  The reference's texts of aggregates; The reference's Word; The reference's Check; The reference's Type; The reference's rules of proper form of literals and aggregates.
-/
import Derived.Test.YtbahfelnbofjjaaGreatDoorT03
import Derived.Test.YtbahfelnbofjjaaGreatDoorT04
import Derived.Test.YtbahfelnbofjjaaGreatDoorT06
import Derived.Test.YtbahfelnbofjjaaGreatDoorT16
import Derived.Test.YtbahfelnbofjjaaGreatDoorT17
import Derived.Test.YtbahfelnbofjjaaGreatDoorT18
set_option maxRecDepth 100000
set_option maxHeartbeats 16000000
namespace Go.Proofs.YtbahfelnbofjjaaGreatDoor.ch
open Go.RowKit dec
theorem raggr_any (h : Hd) (ua : Option Addr) (bk off : Nat) (uc ac : Nat) (p : Ex) (va1 wa1 : Option Addr) (vc1 wc1 : Nat) (q : Ex) (va2 wa2 : Option Addr) (vc2 wc2 : Nat) (w : World) (hR1 : w.rangeAt bk (off + 0) (exC p.h p.ar.len va1 vc1 wa1 wc1).toList) (hR2 : w.rangeAt bk (off + 12) (exC q.h q.ar.len va2 vc2 wa2 wc2).toList) (t1 t2 : List UInt8) (l1 : t1.length ≤ 1000000) (l2 : t2.length ≤ 1000000) (lo : h.op.data.toList.length ≤ 8) (lt : h.tb.data.toList.length ≤ 24) (hp : (h.op = ⟨#[113, 117, 97, 110, 116, 105, 108, 101]⟩ ∨ h.op = ⟨#[100, 101, 99, 97, 121]⟩) → 1 ≤ h.pa ∧ h.pa ≤ 1073741824) (hwi : winH h.wk h.ws = true) (hsx : rsxR q.h q.ar.len = truH q.h) (hU : un.Sl w va2 q.h.un.length vc2 q.h.un) (C1 : ∀ W, Below w.heap.size w W → Calls Tryz.prog 52 #[.agg (exC p.h p.ar.len va1 vc1 wa1 wc1)] W (Sr (B8 (t1)) W)) (C2 : ∀ W, Below w.heap.size w W → Calls Tryz.prog 52 #[.agg (exC q.h q.ar.len va2 vc2 wa2 wc2)] W (Sr (B8 (t2)) W)) : Calls Tryz.prog 109 #[.agg (exC h 2 ua uc (some ⟨bk, off, none⟩) ac)] w (Sr (B8 (agT h [(t1, p.h), (t2, q.h)])) w) := by
 have bb := balloc (b0 w) (.cells (exC h 2 ua uc (some ⟨bk, off, none⟩) ac) 29)
 have B0 := Lib.hid bb
 have G := Lib.hid (Blk.new w 29 (exC h 2 ua uc (some ⟨bk, off, none⟩) ac))
 have R1 := Lib.hid (range_keeps hR1 bb)
 have R2 := Lib.hid (range_keeps hR2 bb)
 replace C1 := Lib.hid C1
 replace C2 := Lib.hid C2
 clear bb hR1 hR2
 have CD := Lib.hid (fun (hq : h.op = ⟨#[113, 117, 97, 110, 116, 105, 108, 101]⟩ ∨ h.op = ⟨#[100, 101, 99, 97, 121]⟩) (W : World) => (show Calls Tryz.prog 59 #[.int .i64 h.pa] W (Sr (B8 (Lib.itoa h.pa)) W) from (rdig05_any h.pa (by have := hp hq; omega) (by have := hp hq; omega) W).mono fun _ _ h => h))
 have CW := Lib.hid (fun (W : World) => rwindow_any h.wk h.ws hwi W)
 have CS := Lib.hid (fun (W : World) (U : un.Sl W va2 q.h.un.length vc2 q.h.un) => sameTrue_any q.h q.ar.len va2 wa2 vc2 wc2 W U)
 have US := Lib.hid (hU.keeps (balloc (b0 w) (.cells (exC h 2 ua uc (some ⟨bk, off, none⟩) ac) 29)))
 have hil : (h.op = ⟨#[113, 117, 97, 110, 116, 105, 108, 101]⟩ ∨ h.op = ⟨#[100, 101, 99, 97, 121]⟩) → (Lib.itoa h.pa).length ≤ 20 := fun hq => itoa_le h.pa (by have := hp hq; omega) (by have := hp hq; omega)
 have hwl := wiT_len hwi
 clear hU hp hwi
 have A1 := add_b8 (h.op.data.toList) ([40]) (by first | omega | (simp only [List.length_append]; omega) | (simp only [List.length_cons, List.length_nil]; omega) | (simp only [List.length_cons, List.length_append, List.length_nil]; omega) | decide) (by first | omega | (simp only [List.length_append]; omega) | (simp only [List.length_cons, List.length_nil]; omega) | (simp only [List.length_cons, List.length_append, List.length_nil]; omega) | decide)
 replace A1 : ∀ W, (Op.stringOp .add h.op ⟨#[40]⟩).run Tryz.prog W = .ok (.string (B8 (h.op.data.toList ++ [40]))) W := A1
 have A2 := add_b8 ((h.op.data.toList ++ [40])) (h.tb.data.toList) (by first | omega | (simp only [List.length_append]; omega) | (simp only [List.length_cons, List.length_nil]; omega) | (simp only [List.length_cons, List.length_append, List.length_nil]; omega) | decide) (by first | omega | (simp only [List.length_append]; omega) | (simp only [List.length_cons, List.length_nil]; omega) | (simp only [List.length_cons, List.length_append, List.length_nil]; omega) | decide)
 replace A2 : ∀ W, (Op.stringOp .add (B8 (h.op.data.toList ++ [40])) h.tb).run Tryz.prog W = .ok (.string (B8 ((h.op.data.toList ++ [40]) ++ h.tb.data.toList))) W := A2
 obtain ⟨S1, hS1⟩ : ∃ l : List UInt8, l = ((h.op.data.toList ++ [40]) ++ h.tb.data.toList) := ⟨_, rfl⟩
 have z1 : S1.length ≤ 1100 := by rw [hS1]; simp only [List.length_append, List.length_cons, List.length_nil]; omega
 rw [← hS1] at A2
 have A3 := add_b8 (S1) ([44, 32]) (by first | omega | (simp only [List.length_append]; omega) | (simp only [List.length_cons, List.length_nil]; omega) | (simp only [List.length_cons, List.length_append, List.length_nil]; omega) | decide) (by first | omega | (simp only [List.length_append]; omega) | (simp only [List.length_cons, List.length_nil]; omega) | (simp only [List.length_cons, List.length_append, List.length_nil]; omega) | decide)
 replace A3 : ∀ W, (Op.stringOp .add (B8 S1) ⟨#[44, 32]⟩).run Tryz.prog W = .ok (.string (B8 (S1 ++ [44, 32]))) W := A3
 have A4 := add_b8 ((S1 ++ [44, 32])) (t1) (by first | omega | (simp only [List.length_append]; omega) | (simp only [List.length_cons, List.length_nil]; omega) | (simp only [List.length_cons, List.length_append, List.length_nil]; omega) | decide) (by first | omega | (simp only [List.length_append]; omega) | (simp only [List.length_cons, List.length_nil]; omega) | (simp only [List.length_cons, List.length_append, List.length_nil]; omega) | decide)
 replace A4 : ∀ W, (Op.stringOp .add (B8 (S1 ++ [44, 32])) (B8 t1)).run Tryz.prog W = .ok (.string (B8 ((S1 ++ [44, 32]) ++ t1))) W := A4
 obtain ⟨S2, hS2⟩ : ∃ l : List UInt8, l = (if h.op = ⟨#[99, 111, 117, 110, 116]⟩ then S1 else ((S1 ++ [44, 32]) ++ t1)) := ⟨_, rfl⟩
 have z2 : S2.length ≤ 1010000 := by rw [hS2]; split <;> (try simp only [List.length_append, List.length_cons, List.length_nil]) <;> omega
 have A5 := add_b8 (S2) ([44, 32]) (by first | omega | (simp only [List.length_append]; omega) | (simp only [List.length_cons, List.length_nil]; omega) | (simp only [List.length_cons, List.length_append, List.length_nil]; omega) | decide) (by first | omega | (simp only [List.length_append]; omega) | (simp only [List.length_cons, List.length_nil]; omega) | (simp only [List.length_cons, List.length_append, List.length_nil]; omega) | decide)
 replace A5 : ∀ W, (Op.stringOp .add (B8 S2) ⟨#[44, 32]⟩).run Tryz.prog W = .ok (.string (B8 (S2 ++ [44, 32]))) W := A5
 have A6 := fun (hq : h.op = ⟨#[113, 117, 97, 110, 116, 105, 108, 101]⟩ ∨ h.op = ⟨#[100, 101, 99, 97, 121]⟩) => add_b8 (S2 ++ [44, 32]) (Lib.itoa h.pa) (by simp only [List.length_append, List.length_cons, List.length_nil]; omega) (by have := hil hq; omega)
 obtain ⟨S3, hS3⟩ : ∃ l : List UInt8, l = (if h.op = ⟨#[113, 117, 97, 110, 116, 105, 108, 101]⟩ ∨ h.op = ⟨#[100, 101, 99, 97, 121]⟩ then ((S2 ++ [44, 32]) ++ Lib.itoa h.pa) else S2) := ⟨_, rfl⟩
 have z3 : S3.length ≤ 1020000 := by
  rw [hS3]
  by_cases hq : h.op = ⟨#[113, 117, 97, 110, 116, 105, 108, 101]⟩ ∨ h.op = ⟨#[100, 101, 99, 97, 121]⟩
  ·have := hil hq
   rw [if_pos hq]; simp only [List.length_append, List.length_cons, List.length_nil]; omega
  ·rw [if_neg hq]; omega
 have A7 := add_b8 (S3) ([44, 32]) (by first | omega | (simp only [List.length_append]; omega) | (simp only [List.length_cons, List.length_nil]; omega) | (simp only [List.length_cons, List.length_append, List.length_nil]; omega) | decide) (by first | omega | (simp only [List.length_append]; omega) | (simp only [List.length_cons, List.length_nil]; omega) | (simp only [List.length_cons, List.length_append, List.length_nil]; omega) | decide)
 replace A7 : ∀ W, (Op.stringOp .add (B8 S3) ⟨#[44, 32]⟩).run Tryz.prog W = .ok (.string (B8 (S3 ++ [44, 32]))) W := A7
 have A8 := add_b8 ((S3 ++ [44, 32])) ((wiT h.wk h.ws)) (by first | omega | (simp only [List.length_append]; omega) | (simp only [List.length_cons, List.length_nil]; omega) | (simp only [List.length_cons, List.length_append, List.length_nil]; omega) | decide) (by first | omega | (simp only [List.length_append]; omega) | (simp only [List.length_cons, List.length_nil]; omega) | (simp only [List.length_cons, List.length_append, List.length_nil]; omega) | decide)
 replace A8 : ∀ W, (Op.stringOp .add (B8 (S3 ++ [44, 32])) (B8 (wiT h.wk h.ws))).run Tryz.prog W = .ok (.string (B8 ((S3 ++ [44, 32]) ++ (wiT h.wk h.ws)))) W := A8
 obtain ⟨S4, hS4⟩ : ∃ l : List UInt8, l = ((S3 ++ [44, 32]) ++ (wiT h.wk h.ws)) := ⟨_, rfl⟩
 have z4 : S4.length ≤ 1030000 := by rw [hS4]; simp only [List.length_append, List.length_cons, List.length_nil]; omega
 rw [← hS4] at A8
 have A9 := add_b8 (S4) ([32, 119, 104, 101, 114, 101, 32]) (by first | omega | (simp only [List.length_append]; omega) | (simp only [List.length_cons, List.length_nil]; omega) | (simp only [List.length_cons, List.length_append, List.length_nil]; omega) | decide) (by first | omega | (simp only [List.length_append]; omega) | (simp only [List.length_cons, List.length_nil]; omega) | (simp only [List.length_cons, List.length_append, List.length_nil]; omega) | decide)
 replace A9 : ∀ W, (Op.stringOp .add (B8 S4) ⟨#[32, 119, 104, 101, 114, 101, 32]⟩).run Tryz.prog W = .ok (.string (B8 (S4 ++ [32, 119, 104, 101, 114, 101, 32]))) W := A9
 have A10 := add_b8 ((S4 ++ [32, 119, 104, 101, 114, 101, 32])) (t2) (by first | omega | (simp only [List.length_append]; omega) | (simp only [List.length_cons, List.length_nil]; omega) | (simp only [List.length_cons, List.length_append, List.length_nil]; omega) | decide) (by first | omega | (simp only [List.length_append]; omega) | (simp only [List.length_cons, List.length_nil]; omega) | (simp only [List.length_cons, List.length_append, List.length_nil]; omega) | decide)
 replace A10 : ∀ W, (Op.stringOp .add (B8 (S4 ++ [32, 119, 104, 101, 114, 101, 32])) (B8 t2)).run Tryz.prog W = .ok (.string (B8 ((S4 ++ [32, 119, 104, 101, 114, 101, 32]) ++ t2))) W := A10
 obtain ⟨S5, hS5⟩ : ∃ l : List UInt8, l = (if truH q.h = true then S4 else ((S4 ++ [32, 119, 104, 101, 114, 101, 32]) ++ t2)) := ⟨_, rfl⟩
 have z5 : S5.length ≤ 2040000 := by rw [hS5]; split <;> (try simp only [List.length_append, List.length_cons, List.length_nil]) <;> omega
 have A11 := add_b8 (S5) ([41]) (by first | omega | (simp only [List.length_append]; omega) | (simp only [List.length_cons, List.length_nil]; omega) | (simp only [List.length_cons, List.length_append, List.length_nil]; omega) | decide) (by first | omega | (simp only [List.length_append]; omega) | (simp only [List.length_cons, List.length_nil]; omega) | (simp only [List.length_cons, List.length_append, List.length_nil]; omega) | decide)
 replace A11 : ∀ W, (Op.stringOp .add (B8 S5) ⟨#[41]⟩).run Tryz.prog W = .ok (.string (B8 (S5 ++ [41]))) W := A11
 have hF : B8 (S5 ++ [41]) = B8 (agT h [(t1, p.h), (t2, q.h)]) := by
  rw [hS5, hS4, hS3, hS2, hS1]
  unfold agT odT od
  simp only [List.getD_cons_zero, List.getD_cons_succ]
  congr 1
  by_cases e1 : h.op = ⟨#[99, 111, 117, 110, 116]⟩ <;> by_cases e2 : h.op = ⟨#[113, 117, 97, 110, 116, 105, 108, 101]⟩ ∨ h.op = ⟨#[100, 101, 99, 97, 121]⟩ <;> cases truH q.h <;> simp [e1, e2]
 rw [← hF]
 clear hF z1 z2 z3 z4 z5 hil hwl l1 l2 lo lt
 have hQ2 := Lib.hid (fun (hc : h.op = ⟨#[99, 111, 117, 110, 116]⟩) => (show B8 S2 = B8 S1 by rw [hS2, if_pos hc]))
 have hQ2' := Lib.hid (fun (hc : h.op ≠ ⟨#[99, 111, 117, 110, 116]⟩) => (show B8 S2 = B8 ((S1 ++ [44, 32]) ++ t1) by rw [hS2, if_neg hc]))
 have hQ3 := Lib.hid (fun (hc : h.op = ⟨#[113, 117, 97, 110, 116, 105, 108, 101]⟩ ∨ h.op = ⟨#[100, 101, 99, 97, 121]⟩) => (show B8 S3 = B8 ((S2 ++ [44, 32]) ++ Lib.itoa h.pa) by rw [hS3, if_pos hc]))
 have hQ3' := Lib.hid (fun (hc : ¬ (h.op = ⟨#[113, 117, 97, 110, 116, 105, 108, 101]⟩ ∨ h.op = ⟨#[100, 101, 99, 97, 121]⟩)) => (show B8 S3 = B8 S2 by rw [hS3, if_neg hc]))
 have hQ5 := Lib.hid (fun (hc : truH q.h = true) => (show B8 S5 = B8 S4 by rw [hS5, if_pos hc]))
 have hQ5' := Lib.hid (fun (hc : truH q.h = false) => (show B8 S5 = B8 ((S4 ++ [32, 119, 104, 101, 114, 101, 32]) ++ t2) by rw [hS5, hc, if_neg (by decide)]))
 clear hS1 hS2 hS3 hS4 hS5
 replace A6 := Lib.hid A6
 generalize B8 (S5 ++ [41]) = r0 at *
 generalize B8 ((S4 ++ [32, 119, 104, 101, 114, 101, 32]) ++ t2) = r1 at *
 generalize B8 (S4 ++ [32, 119, 104, 101, 114, 101, 32]) = r2 at *
 generalize B8 (S3 ++ [44, 32]) = r3 at *
 generalize B8 ((S2 ++ [44, 32]) ++ Lib.itoa h.pa) = r4 at *
 generalize B8 (S2 ++ [44, 32]) = r5 at *
 generalize B8 ((S1 ++ [44, 32]) ++ t1) = r6 at *
 generalize B8 (S1 ++ [44, 32]) = r7 at *
 generalize B8 (h.op.data.toList ++ [40]) = r8 at *
 generalize B8 S5 = r9 at *
 generalize B8 S4 = r10 at *
 generalize B8 S3 = r11 at *
 generalize B8 S2 = r12 at *
 generalize B8 S1 = r13 at *
 generalize B8 t1 = r14 at *
 generalize B8 t2 = r15 at *
 generalize B8 (wiT h.wk h.ws) = r16 at *
 generalize B8 (Lib.itoa h.pa) = r17 at *
 replace A6 : Hid ((h.op = ⟨#[113, 117, 97, 110, 116, 105, 108, 101]⟩ ∨ h.op = ⟨#[100, 101, 99, 97, 121]⟩) → ∀ W, (Op.stringOp .add r5 r17).run Tryz.prog W = .ok (.string r4) W) := A6
 unfold exC at *
 go_enter Tryz.func109, Tryz.ntmps109
 go_upto_region 1 with fail
 generalize hw0 : (w.alloc (.cells #[.int .i64 h.k, .string h.op, .string h.nm, .string h.tb, .int .i64 h.vk, .int .i64 h.vn, .string h.vs, .slice ua h.un.length uc, .int .i64 h.pa, .int .i64 h.wk, .int .i64 h.ws, .slice (some ⟨bk, off, none⟩) 2 ac] 29)) = w0 at *
 generalize hg2 : w.heap.size = g2 at G ⊢
 clear hw0 hg2
 have c1 := G.out.cell 1
 have c3 := G.out.cell 3
 simp only [List.getElem?_toArray, List.getElem?_cons_zero, List.getElem?_cons_succ] at c1 c3
 go_upto_region 2 with fail
 clear c3
 obtain ⟨bc, hbc⟩ : ∃ bc : Bool, bc = decide (h.op = ⟨#[99, 111, 117, 110, 116]⟩) := ⟨_, rfl⟩
 have qc : (h.op.toList == [99, 111, 117, 110, 116]) = bc := by rw [eqL, hbc]
 replace hbc := Lib.hid hbc
 go_upto_if 12 with fail
 clear c1 qc
 go_cut [3] from 13 to 20 (fun v wx => v = .string r12 ∧ Hid (Below w0.heap.size w0 wx))
 case first =>
  cases bc
  ·have e := hQ2'.out (by have := hbc.out; simpa using this)
   have e' := Lib.hid e
   clear e
   have c11 := G.out.cell 11
   simp only [List.getElem?_toArray, List.getElem?_cons_zero, List.getElem?_cons_succ] at c11
   go_wp2_with (refine arm_mid infX Tryz.underlying29 rfl (.tmp 17) rfl rfl bk (off + 0) #[.int .i64 p.h.k, .string p.h.op, .string p.h.nm, .string p.h.tb, .int .i64 p.h.vk, .int .i64 p.h.vn, .string p.h.vs, .slice va1 p.h.un.length vc1, .int .i64 p.h.pa, .int .i64 p.h.wk, .int .i64 p.h.ws, .slice wa1 p.ar.len wc1] rfl R1.out rfl ?_)
   refine (C1.out _ B0.out).mono ?_
   rintro e w1 ⟨rfl, b1⟩
   have B1 := Lib.hid b1
   clear b1
   go_wp2_with fail
   go_meet
   case rel => exact ⟨congrArg Value.string e'.out.symm, B1⟩
  ·have e := hQ2.out (by have := hbc.out; simpa using this)
   have e' := Lib.hid e
   clear e
   go_wp2_with fail
   go_meet
   case rel => exact ⟨congrArg Value.string e'.out.symm, Lib.hid (b0 w0)⟩
 case rest =>
  obtain ⟨rfl, BW⟩ := hcut
  have Ba := Lib.hid (bnext B0.out BW.out)
  replace G := Lib.hid (G.out.keeps BW.out)
  replace R1 := Lib.hid (range_keeps R1.out BW.out)
  replace R2 := Lib.hid (range_keeps R2.out BW.out)
  replace US := Lib.hid (US.out.keeps BW.out)
  clear BW
  generalize wc = wa at *
  clear hQ2 hQ2' hbc C1
  have c1 := G.out.cell 1
  simp only [List.getElem?_toArray, List.getElem?_cons_zero, List.getElem?_cons_succ] at c1
  obtain ⟨bq, hbq⟩ : ∃ bq : Bool, bq = decide (h.op = ⟨#[113, 117, 97, 110, 116, 105, 108, 101]⟩) := ⟨_, rfl⟩
  obtain ⟨bd, hbd⟩ : ∃ bd : Bool, bd = decide (h.op = ⟨#[100, 101, 99, 97, 121]⟩) := ⟨_, rfl⟩
  have qq : (h.op.toList == [113, 117, 97, 110, 116, 105, 108, 101]) = bq := by rw [eqL, hbq]
  have qd : (h.op.toList == [100, 101, 99, 97, 121]) = bd := by rw [eqL, hbd]
  replace hbq := Lib.hid hbq
  replace hbd := Lib.hid hbd
  go_upto_region 4 with fail
  go_cut [28] from 21 to 28 (fun v wx => v = .bool (bq || bd) ∧ wx = wa)
  case first =>
   cases bq
   ·go_wp2_with fail
    go_meet
    case rel => exact ⟨rfl, rfl⟩
   ·go_wp2_with fail
    go_meet
    case rel => exact ⟨rfl, rfl⟩
  case rest =>
   obtain ⟨rfl, rfl⟩ := hcut
   have hbb : Hid ((bq || bd) = decide (h.op = ⟨#[113, 117, 97, 110, 116, 105, 108, 101]⟩ ∨ h.op = ⟨#[100, 101, 99, 97, 121]⟩)) := Lib.hid (by rw [hbq.out, hbd.out, Bool.decide_or])
   clear c1 qq qd hbq hbd
   generalize (bq || bd) = bb at *
   go_upto_if 28 with fail
   go_cut [3] from 29 to 34 (fun v wx => v = .string r11 ∧ Hid (Below wc.heap.size wc wx))
   case first =>
    cases bb
    ·have e' := Lib.hid (hQ3'.out (by have := hbb.out; simpa using this))
     go_wp2_with fail
     go_meet
     case rel => exact ⟨congrArg Value.string e'.out.symm, Lib.hid (b0 _)⟩
    ·have hq : h.op = ⟨#[113, 117, 97, 110, 116, 105, 108, 101]⟩ ∨ h.op = ⟨#[100, 101, 99, 97, 121]⟩ := by have := hbb.out; simpa using this
     have e' := Lib.hid (hQ3.out hq)
     have A6' := A6.out hq
     replace CD := Lib.hid (CD.out hq)
     clear hq
     have c8 := G.out.cell 8
     simp only [List.getElem?_toArray, List.getElem?_cons_zero, List.getElem?_cons_succ] at c8
     go_wp2_with fail
     refine (CD.out _).mono ?_
     rintro e w1 ⟨rfl, b1⟩
     have B1 := Lib.hid b1
     clear b1
     go_wp2_with fail
     go_meet
     case rel => exact ⟨congrArg Value.string e'.out.symm, B1⟩
   case rest =>
    obtain ⟨rfl, BW⟩ := hcut
    have Bb := Lib.hid (bnext Ba.out BW.out)
    replace G := Lib.hid (G.out.keeps BW.out)
    replace R1 := Lib.hid (range_keeps R1.out BW.out)
    replace R2 := Lib.hid (range_keeps R2.out BW.out)
    replace US := Lib.hid (US.out.keeps BW.out)
    clear BW
    generalize wc = wb at *
    clear hQ3 hQ3' hbb CD A6
    have RW := Lib.hid (blk_range G.out 9 [.int .i64 h.wk, .int .i64 h.ws] rfl)
    go_wp2_with (refine arm_mid infWi' Tryz.underlying26 rfl (.tmp 37) rfl rfl g2 9 #[.int .i64 h.wk, .int .i64 h.ws] rfl RW.out rfl ?_)
    refine (CW.out _).mono ?_
    rintro e w1 ⟨rfl, b1⟩
    have Bc := Lib.hid (bnext Bb.out b1)
    replace G := Lib.hid (G.out.keeps b1)
    replace R2 := Lib.hid (range_keeps R2.out b1)
    replace US := Lib.hid (US.out.keeps b1)
    clear b1 CW RW
    go_upto_region 7 with fail
    go_cut [47] from 41 to 47 (fun v wx => v = .bool (!truH q.h) ∧ Hid (Below w1.heap.size w1 wx))
    case first =>
     refine wp_region_held_drew (S := fun w' => Below w1.heap.size w1 w') (by kernel_rfl) (b0 w1).drew (fun hH => ?_)
     refine held_take (i := 0) (d := 41) (v := ?_) rfl (by kernel_rfl) (by kernel_rfl) (by kernel_rfl) rfl (fun _ _ _ h => h) rfl hH (fun w' hS => ?_) ?_
     rotate_left
     ·go_simp; first | done | with_reducible rfl
     simp only [List.set_cons_zero, List.set_cons_succ]
     refine held_take (i := 1) (d := 42) (v := ?_) rfl (by kernel_rfl) (by kernel_rfl) (by kernel_rfl) rfl (fun _ _ _ h => h) rfl hH (fun w' hS => ?_) ?_
     rotate_left
     ·have m11 := (G.out.keeps hS).cell 11; simp only [List.getElem?_toArray, List.getElem?_cons_zero, List.getElem?_cons_succ] at m11; go_simp; first | done | with_reducible rfl
     simp only [List.set_cons_zero, List.set_cons_succ]
     refine held_take (i := 2) (d := 43) (v := ?_) rfl (by kernel_rfl) (by kernel_rfl) (by kernel_rfl) rfl (fun _ _ _ h => h) rfl hH (fun w' hS => ?_) ?_
     rotate_left
     ·go_simp; first | done | with_reducible rfl
     simp only [List.set_cons_zero, List.set_cons_succ]
     refine held_take (i := 3) (d := 44) (v := .agg #[.int .i64 q.h.k, .string q.h.op, .string q.h.nm, .string q.h.tb, .int .i64 q.h.vk, .int .i64 q.h.vn, .string q.h.vs, .slice va2 q.h.un.length vc2, .int .i64 q.h.pa, .int .i64 q.h.wk, .int .i64 q.h.ws, .slice wa2 q.ar.len wc2]) rfl (by kernel_rfl) (by kernel_rfl) (by kernel_rfl) rfl (fun _ _ _ h => h) rfl hH (fun w' hS => yield_loadM infX Tryz.underlying29 rfl (.tmp 43) rfl bk (off + 12) #[.int .i64 q.h.k, .string q.h.op, .string q.h.nm, .string q.h.tb, .int .i64 q.h.vk, .int .i64 q.h.vn, .string q.h.vs, .slice va2 q.h.un.length vc2, .int .i64 q.h.pa, .int .i64 q.h.wk, .int .i64 q.h.ws, .slice wa2 q.ar.len wc2] rfl (range_keeps R2.out hS) rfl) ?_
     simp only [List.set_cons_zero, List.set_cons_succ]
     generalize w1.drew = yy at *
     refine held_only (i := 4) rfl (by kernel_rfl) rfl (fun K hK => ?_)
     go_simp
     refine (true_e _).mono ?_
     rintro e y71 ⟨rfl, b71⟩
     skip
     refine hK.out _ _ (bnext hH b71) (fun hH => ?_)
     clear hK K
     clear b71
     refine held_only (i := 5) rfl (by kernel_rfl) rfl (fun K hK => ?_)
     go_simp
     refine (CS.out _ (US.out.keeps hH)).mono ?_
     rintro e y72 ⟨rfl, b72⟩
     skip
     refine hK.out _ _ (bnext hH b72) (fun hH => ?_)
     clear hK K
     clear b72
     refine held_take (i := 6) (d := 47) (v := ?_) rfl (by kernel_rfl) (by kernel_rfl) (by kernel_rfl) rfl (fun _ _ _ h => h) rfl hH (fun w' hS => ?_) ?_
     rotate_left
     ·go_simp; first | done | with_reducible rfl
     simp only [List.set_cons_zero, List.set_cons_succ]
     refine wpAnyH_done (by kernel_rfl) ?_ _
     go_wp2_with fail
     go_meet
     case rel => exact ⟨by first | rfl | rw [hsx], Lib.hid hH⟩
    case rest =>
     obtain ⟨rfl, BW⟩ := hcut
     have Bd := Lib.hid (bnext Bc.out BW.out)
     replace G := Lib.hid (G.out.keeps BW.out)
     replace R2 := Lib.hid (range_keeps R2.out BW.out)
     clear BW CS US hsx
     generalize wc = wd at *
     generalize truH q.h = bt at *
     go_upto_if 47 with fail
     go_cut [3] from 48 to 55 (fun v wx => v = .string r9 ∧ Hid (Below wd.heap.size wd wx))
     case first =>
      cases bt
      ·have e' := Lib.hid (hQ5'.out rfl)
       have c11 := G.out.cell 11
       simp only [List.getElem?_toArray, List.getElem?_cons_zero, List.getElem?_cons_succ] at c11
       go_wp2_with (refine arm_mid infX Tryz.underlying29 rfl (.tmp 52) rfl rfl bk (off + 12) #[.int .i64 q.h.k, .string q.h.op, .string q.h.nm, .string q.h.tb, .int .i64 q.h.vk, .int .i64 q.h.vn, .string q.h.vs, .slice va2 q.h.un.length vc2, .int .i64 q.h.pa, .int .i64 q.h.wk, .int .i64 q.h.ws, .slice wa2 q.ar.len wc2] rfl R2.out rfl ?_)
       refine (C2.out _ Bd.out).mono ?_
       rintro e w1 ⟨rfl, b1⟩
       have B1 := Lib.hid b1
       clear b1
       go_wp2_with fail
       go_meet
       case rel => exact ⟨congrArg Value.string e'.out.symm, B1⟩
      ·have e' := Lib.hid (hQ5.out rfl)
       go_wp2_with fail
       go_meet
       case rel => exact ⟨congrArg Value.string e'.out.symm, Lib.hid (b0 _)⟩
     case rest =>
      obtain ⟨rfl, BW⟩ := hcut
      have Be := Lib.hid (bnext Bd.out BW.out)
      clear BW
      go_wp2_with fail
      go_ret
      exact sr_of rfl Be.out
end Go.Proofs.YtbahfelnbofjjaaGreatDoor.ch
namespace Go.Proofs.YtbahfelnbofjjaaGreatDoor.un
open Go.RowKit dec
theorem wf_false {c : Int} (h1 : ¬ (97 ≤ c ∧ c ≤ 122)) (h2 : ¬ (48 ≤ c ∧ c ≤ 57)) (h3 : ¬ c = 95) : (lett c || (digi c || decide (c = 95))) = false := by
 unfold lett digi
 rw [decide_eq_false h1, decide_eq_false h2, decide_eq_false h3]
 rfl
theorem wf_true {c : Int} (h : (97 ≤ c ∧ c ≤ 122) ∨ (48 ≤ c ∧ c ≤ 57) ∨ c = 95) : (lett c || (digi c || decide (c = 95))) = true := by
 unfold lett digi
 rcases h with h | h | h
 ·rw [decide_eq_true h]; rfl
 ·rw [decide_eq_true h]; simp
 ·rw [decide_eq_true h]; simp
theorem rword_any (s : ByteArray) (w : World) : Calls Tryz.prog 127 #[.string s] w fun e w' => e = .returned (.bool (word s)) ∧ w = w' := by
 by_cases h0 : s.size = 0
 ·rw [word_none s h0]
  have q1 : decide ((s.size : Int) < 1) = true := decide_eq_true (by omega)
  go_enter Tryz.func127, Tryz.ntmps127
  go_wp2_with fail
  go_ret
  exact ⟨rfl, rfl⟩
 ·have h0' : 0 < s.size := by omega
  have hw := word_is s h0'
  have q1 : decide ((s.size : Int) < 1) = false := decide_eq_false (by omega)
  by_cases h24 : s.size ≤ 24
  ·have q2 : decide (24 < (s.size : Int)) = false := decide_eq_false (by omega)
   rw [decide_eq_true h24, Bool.true_and] at hw
   have hS := Lib.hid h24
   clear h24
   generalize hK : ((s[0].toNat : Nat) : Int) = d at hw
   cases hl : lett d
   ·rw [hl, Bool.false_and] at hw
    rw [hw]
    unfold lett at hl
    rw [decide_eq_false_iff_not] at hl
    by_cases p1 : d < 97
    ·have q3 : decide (d < 97) = true := decide_eq_true p1
     clear hl p1
     go_enter Tryz.func127, Tryz.ntmps127
     go_wp2_with fail
     go_ret
     exact ⟨rfl, rfl⟩
    ·have q3 : decide (d < 97) = false := decide_eq_false p1
     have q4 : decide (122 < d) = true := decide_eq_true (by omega)
     clear hl p1
     go_enter Tryz.func127, Tryz.ntmps127
     go_wp2_with fail
     go_ret
     exact ⟨rfl, rfl⟩
   ·rw [hl, Bool.true_and] at hw
    have H := Lib.hid hw
    unfold lett at hl
    rw [decide_eq_true_eq] at hl
    have q3 : decide (d < 97) = false := decide_eq_false (by omega)
    have q4 : decide (122 < d) = false := decide_eq_false (by omega)
    clear hw hl
    go_enter Tryz.func127, Tryz.ntmps127
    go_wp2_with fail
    go_loopw [3] (fun vi wr => ∃ j : Nat, vi = .int .i64 (j : Nat) ∧ j ≤ s.size ∧ Hid (word s = (s.data.toList.drop j).all wch) ∧ w = wr) (fun vi _ => s.size - (intOf vi).toNat)
    case atStart => exact ⟨0, rfl, by omega, H, rfl⟩
    case round =>
     obtain ⟨j, rfl, hj, hd, rfl⟩ := hrel
     clear H
     by_cases hc : j < s.size
     ·have hst := hd.out
      rw [wch_at s hc, wch_is] at hst
      have q5 : decide ((j : Int) < (s.size : Int)) = true := decide_eq_true (by omega)
      have f4 := Lib.hid (next_at (j := j) (by have := hS.out; omega))
      generalize hJ : ((s[j].toNat : Nat) : Int) = c at hst
      have H := Lib.hid hst
      clear hd hst q1 q2 q3 q4 hK
      go_wp2_with fail
      all_goals first
       | (go_ret; refine ⟨ret_bool ?_, rfl⟩; rw [H.out, wf_false (by omega) (by omega) (by first | omega | simp_all), Bool.false_and])
       | (refine ⟨⟨j + 1, congrArg (Value.int .i64) f4.out, hc, Lib.hid ?_, trivial⟩, less_at hc f4.out⟩; rw [H.out, wf_true (by first | omega | (simp_all; done) | (simp_all; omega)), Bool.true_and])
     ·have hst := hd.out
      rw [wch_end s (by omega)] at hst
      have H := Lib.hid hst
      clear hst hd
      have q3 : decide ((j : Int) < (s.size : Int)) = false := decide_eq_false (by omega)
      go_wp2_with fail
      go_ret
      exact ⟨ret_bool H.out.symm, rfl⟩
  ·rw [decide_eq_false h24, Bool.false_and] at hw
   have q2 : decide (24 < (s.size : Int)) = true := decide_eq_true (by omega)
   rw [hw]
   go_enter Tryz.func127, Tryz.ntmps127
   go_wp2_with fail
   go_ret
   exact ⟨rfl, rfl⟩
end Go.Proofs.YtbahfelnbofjjaaGreatDoor.un
namespace Go.Proofs.YtbahfelnbofjjaaGreatDoor.un
open Go.RowKit dec
theorem less_dl0 {n d : Nat} (hd : d < n) : n - (intOf (Value.int .i64 ((d : Int) + 1))).toNat < n - (intOf (Value.int .i64 (d : Int))).toNat := by
 have h := hd
 show n - (((d : Int) + 1)).toNat < n - ((d : Nat) : Int).toNat
 omega
theorem ck_at {l : List Fa} {j : Nat} (_ : j < l.length) : ck1 .empty (gt l j) = 0 ∨ word (gt l j).1 = false ∨ ((gt l j).2 = 0 ∨ far (gt l j).2 = true) := by
 cases hw : word (gt l j).1
 ·exact .inr (.inl rfl)
 ·by_cases h2 : (gt l j).2 = 0 ∨ far (gt l j).2 = true
  ·exact .inr (.inr h2)
  ·refine .inl (ck1_of hw (fun e => h2 (.inl e)) (by simpa using fun e => h2 (.inr e)) ?_)
   rw [ltS_empty]
   have := word_size hw
   exact decide_eq_true (by omega)
theorem wrap_at {i : Nat} (h : i < 9223372036854775807) : wrap64 ((i : Nat) : Int) = ((i : Nat) : Int) := by unfold wrap64; omega
def bef (l : List Fa) (j : Nat) : ByteArray := if j = 0 then .empty else (gt l (j - 1)).1
theorem rcheck_any (a : Option Addr) (n cap : Nat) (l : List Fa) (w : World) (hS : Sl w a n cap l) :
  Calls Tryz.prog 72 #[.slice a n cap] w fun e w' => e = .returned (.int .i64 (ck l)) ∧ Below w.heap.size w w' := by
 have W1 := Lib.hid rword_any
 have R1 := Lib.hid far_any
 have hck : ck l = if 4 < n then 2 else ckFrom .empty (l.drop 0) := by rw [List.drop_zero, ← hS.hn]; rfl
 have S0 := Lib.hid hS
 clear hS
 by_cases h4 : 4 < n
 ·rw [hck, if_pos h4]
  have q1 : decide (4 < (n : Int)) = true := decide_eq_true (by omega)
  clear W1 R1 S0 hck
  go_enter Tryz.func72, Tryz.ntmps72
  go_wp2_with fail
  go_ret
  exact ⟨rfl, b0 w⟩
 ·rw [if_neg h4] at hck
  rw [hck]
  have hn := Lib.hid (Nat.le_of_not_lt h4)
  have q1 : decide (4 < (n : Int)) = false := decide_eq_false (by omega)
  clear h4 hck
  go_enter Tryz.func72, Tryz.ntmps72
  go_wp2_with fail
  go_loopw [3] (fun vi wr => ∃ j : Nat, vi = .int .i64 (j : Nat) ∧ Hid (j ≤ n) ∧ Hid (ckFrom .empty (l.drop 0) = ckFrom (bef l j) (l.drop j)) ∧ Hid (Below w.heap.size w wr)) (fun vi _ => n - (intOf vi).toNat)
  case atStart => exact ⟨0, rfl, Lib.hid (by omega), Lib.hid rfl, Lib.hid (b0 w)⟩
  case round =>
   obtain ⟨j, rfl, hj, hd, hb⟩ := hrel
   by_cases hc : j < n
   ·have hln := Lib.hid (show j < l.length by have := S0.out.hn; omega)
    have hst := hd.out
    rw [ck_drop hln.out (bef l j)] at hst
    obtain ⟨bk, off, rfl, hC⟩ := (S0.out.keeps hb.out).hat.resolve_left (by have := hln.out; omega)
    obtain ⟨c0, c1⟩ := hC j hln.out
    have q2 : decide ((j : Int) < (n : Int)) = true := decide_eq_true (by omega)
    have q3 : j < n := hc
    have f4 := Lib.hid (next_at (j := j) (by have := hn.out; omega))
    have hbn := Lib.hid (show bef l (j + 1) = (gt l j).1 from rfl)
    have hca := Lib.hid (ck_at hln.out)
    have H := Lib.hid hst
    clear hd hst
    rcases Nat.eq_zero_or_pos j with h0 | h0
    ·have hbe := Lib.hid (show bef l j = .empty by rw [h0]; rfl)
     have q6 : decide ((0 : Int) < (j : Int)) = false := decide_eq_false (by omega)
     have q7 : decide (0 < j) = false := decide_eq_false (by omega)
     generalize bef l j = bb at *
     generalize gt l j = x at *
     clear hC h0
     cases hw : word x.1
     ·have hk : ck1 .empty x = 1 := by unfold ck1; rw [if_pos hw]
      replace hk := Lib.hid hk
      go_wp2_with fail
      refine (W1.out _ _).mono ?_
      rintro e w' ⟨rfl, rfl⟩
      go_wp2_with fail
      go_ret
      exact ⟨ret_int (by rw [H.out, hbe.out, if_neg (by rw [hk.out]; decide), hk.out]), hb.out⟩
     ·by_cases hz : x.2 = 0
      ·have hk : ck1 .empty x = 70 := by unfold ck1; rw [hw, if_neg (by decide), if_pos (.inl hz)]
       have q4 : (x.2 == 0) = true := beq_iff_eq.2 hz
       replace hk := Lib.hid hk
       replace hz := Lib.hid hz
       go_wp2_with fail
       refine (W1.out _ _).mono ?_
       rintro e w' ⟨rfl, rfl⟩
       go_wp2_with fail
       go_ret
       exact ⟨ret_int (by rw [H.out, hbe.out, if_neg (by rw [hk.out]; decide), hk.out]), hb.out⟩
      ·have q4 : (x.2 == 0) = false := beq_eq_false_iff_ne.2 hz
       cases hf : far x.2
       ·have hk := Lib.hid (show ck1 .empty x = 0 from hca.out.resolve_right (by rintro (h | h | h) <;> simp_all))
        replace hz := Lib.hid hz
        go_wp2_with fail
        refine (W1.out _ _).mono ?_
        rintro e w' ⟨rfl, rfl⟩
        go_wp2_with fail
        refine (R1.out _ _).mono ?_
        rintro e w' ⟨rfl, rfl⟩
        go_wp2_with fail
        have c0r := cell_regrown c0
        clear c0 c1
        refine wp_region_quiet_below (by kernel_rfl) (by kernel_rfl) ?_
        repeat (first | go_big_quiet_skip | (go_big_quiet_want; go_big_quiet_op; go_big_quiet_on))
        refine wpQuiet_nil ?_
        intro w9 hw9
        have hb2 := Lib.hid (bnext hb.out (below_of hw9))
        clear hw9
        go_wp2_with fail
        refine ⟨⟨j + 1, by first | exact congrArg (Value.int .i64) f4.out | rfl, Lib.hid hc, Lib.hid (by rw [H.out, hbe.out, if_pos hk.out, hbn.out]), Lib.hid hb2.out⟩, by first | exact less_at hc f4.out | exact less_dl0 hc⟩
       ·have hk : ck1 .empty x = 70 := by unfold ck1; rw [hw, hf, if_neg (by decide), if_pos (.inr rfl)]
        replace hk := Lib.hid hk
        replace hz := Lib.hid hz
        go_wp2_with fail
        refine (W1.out _ _).mono ?_
        rintro e w' ⟨rfl, rfl⟩
        go_wp2_with fail
        refine (R1.out _ _).mono ?_
        rintro e w' ⟨rfl, rfl⟩
        go_wp2_with fail
        go_ret
        exact ⟨ret_int (by rw [H.out, hbe.out, if_neg (by rw [hk.out]; decide), hk.out]), hb.out⟩
    ·obtain ⟨i, rfl⟩ : ∃ i, j = i + 1 := ⟨j - 1, by omega⟩
     have hbe := Lib.hid (show bef l (i + 1) = (gt l i).1 from rfl)
     obtain ⟨d0, d1⟩ := hC i (by have := hln.out; omega)
     have q6 : decide ((0 : Int) < ((i + 1 : Nat) : Int)) = true := decide_eq_true (by omega)
     have q9 : i < n := by omega
     have f9 := wrap_at (i := i) (by have := hn.out; omega)
     have q8 := le_is (gt l (i + 1)).1 (gt l i).1
     generalize gt l (i + 1) = x at *
     generalize (gt l i).1 = b at *
     generalize bef l (i + 1) = bb at *
     clear hC h0 hca
     cases hw : word x.1
     ·have hk : ck1 b x = 1 := by unfold ck1; rw [if_pos hw]
      replace hk := Lib.hid hk
      go_wp2_with fail
      refine (W1.out _ _).mono ?_
      rintro e w' ⟨rfl, rfl⟩
      go_wp2_with fail
      go_ret
      exact ⟨ret_int (by rw [H.out, hbe.out, if_neg (by rw [hk.out]; decide), hk.out]), hb.out⟩
     ·by_cases hz : x.2 = 0
      ·have hk : ck1 b x = 70 := by unfold ck1; rw [hw, if_neg (by decide), if_pos (.inl hz)]
       have q4 : (x.2 == 0) = true := beq_iff_eq.2 hz
       replace hk := Lib.hid hk
       replace hz := Lib.hid hz
       go_wp2_with fail
       refine (W1.out _ _).mono ?_
       rintro e w' ⟨rfl, rfl⟩
       go_wp2_with fail
       go_ret
       exact ⟨ret_int (by rw [H.out, hbe.out, if_neg (by rw [hk.out]; decide), hk.out]), hb.out⟩
      ·have q4 : (x.2 == 0) = false := beq_eq_false_iff_ne.2 hz
       cases hf : far x.2
       ·cases hl : Op.bytesLess b.toList x.1.toList
        ·have hk : ck1 b x = 3 := by unfold ck1 ltS; rw [hw, hf, hl, if_neg (by decide), if_neg (by simp [hz]), if_neg (by decide)]
         replace hk := Lib.hid hk
         replace hz := Lib.hid hz
         rw [hl, Bool.not_false] at q8
         go_wp2_with fail
         refine (W1.out _ _).mono ?_
         rintro e w' ⟨rfl, rfl⟩
         go_wp2_with fail
         refine (R1.out _ _).mono ?_
         rintro e w' ⟨rfl, rfl⟩
         go_wp2_with fail
         have c0r := cell_regrown c0
         have d0r := cell_regrown d0
         clear c0 c1 d0 d1
         refine wp_region_quiet_below (by kernel_rfl) (by kernel_rfl) ?_
         repeat (first | go_big_quiet_skip | (go_big_quiet_want; go_big_quiet_op; go_big_quiet_on))
         refine wpQuiet_nil ?_
         intro w9 hw9
         have hb2 := Lib.hid (bnext hb.out (below_of hw9))
         clear hw9
         go_wp2_with fail
         go_ret
         exact ⟨ret_int (by rw [H.out, hbe.out, if_neg (by rw [hk.out]; decide), hk.out]), hb2.out⟩
        ·have hk : ck1 b x = 0 := by unfold ck1 ltS; rw [hw, hf, hl, if_neg (by decide), if_neg (by simp [hz]), if_pos rfl]
         replace hk := Lib.hid hk
         replace hz := Lib.hid hz
         rw [hl, Bool.not_true] at q8
         go_wp2_with fail
         refine (W1.out _ _).mono ?_
         rintro e w' ⟨rfl, rfl⟩
         go_wp2_with fail
         refine (R1.out _ _).mono ?_
         rintro e w' ⟨rfl, rfl⟩
         go_wp2_with fail
         have c0r := cell_regrown c0
         have d0r := cell_regrown d0
         clear c0 c1 d0 d1
         refine wp_region_quiet_below (by kernel_rfl) (by kernel_rfl) ?_
         repeat (first | go_big_quiet_skip | (go_big_quiet_want; go_big_quiet_op; go_big_quiet_on))
         refine wpQuiet_nil ?_
         intro w9 hw9
         have hb2 := Lib.hid (bnext hb.out (below_of hw9))
         clear hw9
         go_wp2_with fail
         refine ⟨⟨i + 1 + 1, by first | exact congrArg (Value.int .i64) f4.out | rfl, Lib.hid hc, Lib.hid (by rw [H.out, hbe.out, if_pos hk.out, hbn.out]), Lib.hid hb2.out⟩, by first | exact less_at hc f4.out | exact less_dl0 hc⟩
       ·have hk : ck1 b x = 70 := by unfold ck1; rw [hw, hf, if_neg (by decide), if_pos (.inr rfl)]
        replace hk := Lib.hid hk
        replace hz := Lib.hid hz
        go_wp2_with fail
        refine (W1.out _ _).mono ?_
        rintro e w' ⟨rfl, rfl⟩
        go_wp2_with fail
        refine (R1.out _ _).mono ?_
        rintro e w' ⟨rfl, rfl⟩
        go_wp2_with fail
        go_ret
        exact ⟨ret_int (by rw [H.out, hbe.out, if_neg (by rw [hk.out]; decide), hk.out]), hb.out⟩
   ·have H := Lib.hid (show ckFrom .empty (l.drop 0) = 0 by rw [hd.out, ck_end (by have := S0.out.hn; omega)])
    have q3 : decide ((j : Int) < (n : Int)) = false := decide_eq_false (by omega)
    clear hd
    go_wp2_with fail
    go_ret
    exact ⟨ret_int H.out.symm, hb.out⟩
end Go.Proofs.YtbahfelnbofjjaaGreatDoor.un
namespace Go.Proofs.YtbahfelnbofjjaaGreatDoor.ch
open Go.RowKit dec
theorem rtype_any (t : Ty) (ua : Option Addr) (uc : Nat) (w : World) (hA : un.Sl w ua t.un.length uc t.un) :
  Calls Tryz.prog 29 #[.agg (tyC t ua uc)] w (Num (tyE t) w) := by
 have bb := balloc (b0 w) (.cells (tyC t ua uc) 31)
 have B0 := Lib.hid bb
 have G := Lib.hid (Blk.new w 31 (tyC t ua uc))
 have S0 := Lib.hid (hA.keeps bb)
 have hE : tyE t = tyE t := rfl
 conv at hE => rhs; unfold tyE
 replace hE := Lib.hid hE
 have hL := Lib.hid (show t.un.length ≤ 9223372036854775807 by have := hA.hcap; have := hA.hmax; omega)
 have CN := Lib.hid (fun W => rname_any t.of W)
 have CU := Lib.hid (fun W S => un.rcheck_any ua t.un.length uc t.un W S)
 have CM := Lib.hid rname_any
 have CI := Lib.hid (fun W => rNumber_any t ua uc W)
 clear hA bb
 unfold tyC at *
 by_cases h1 : t.k < 1
 ·have q1 : decide (t.k < 1) = true := decide_eq_true h1
  replace hE := hE.out
  rw [if_pos (.inl h1)] at hE
  replace hE := Lib.hid hE
  clear CN CU CI
  go_enter Tryz.func29, Tryz.ntmps29
  go_wp2_with fail
  go_ret
  exact nu_of (by rw [hE.out]) B0.out
 ·have q1 : decide (t.k < 1) = false := decide_eq_false h1
  by_cases h2 : 5 < t.k
  ·have q2 : decide (5 < t.k) = true := decide_eq_true h2
   replace hE := hE.out
   rw [if_pos (.inr h2)] at hE
   replace hE := Lib.hid hE
   clear CN CU CI
   go_enter Tryz.func29, Tryz.ntmps29
   go_wp2_with fail
   go_ret
   exact nu_of (by rw [hE.out]) B0.out
  ·have q2 : decide (5 < t.k) = false := decide_eq_false h2
   replace hE := hE.out
   rw [if_neg (by omega)] at hE
   replace hE := Lib.hid hE
   by_cases h3 : t.k = 5
   ·have q3 : (t.k == 5) = true := by simp [h3]
    have q4 : (t.k != 5) = false := by simp [h3]
    replace hE := hE.out
    simp only [h3, true_and] at hE
    replace hE := Lib.hid hE
    replace h3 := Lib.hid h3
    go_enter Tryz.func29, Tryz.ntmps29
    go_wp2_with fail
    refine (CN.out _).mono ?_
    rintro e w1 ⟨rfl, b1⟩
    have B1 := Lib.hid (bnext B0.out b1)
    replace S0 := Lib.hid (S0.out.keeps b1)
    replace G := Lib.hid (G.out.keeps b1)
    have c0 := G.out.cell 0
    have c1 := G.out.cell 1
    have c2 := G.out.cell 2
    simp only [List.getElem?_toArray, List.getElem?_cons_zero, List.getElem?_cons_succ] at c0 c1 c2
    clear b1 CN
    generalize name t.of = z at *
    cases z
    ·replace hE := hE.out
     rw [if_pos rfl] at hE
     replace hE := Lib.hid hE
     go_wp2_with fail
     go_ret
     exact nu_of (by rw [hE.out]) B1.out
    ·replace hE := hE.out
     rw [if_neg (by decide), if_neg (fun h => h.1 rfl)] at hE
     replace hE := Lib.hid hE
     go_wp2_with (first | (refine arm_loadT infTy Tryz.underlying31 rfl (.tmp 1) rfl rfl _ _ _ rfl G.out rfl ?_))
     refine (CI.out _).mono ?_
     rintro e w2 ⟨rfl, b2⟩
     have B2 := Lib.hid (bnext B1.out b2)
     replace S0 := Lib.hid (S0.out.keeps b2)
     replace G := Lib.hid (G.out.keeps b2)
     have c1 := G.out.cell 1
     simp only [List.getElem?_toArray, List.getElem?_cons_zero, List.getElem?_cons_succ] at c1
     clear b2 CI
     generalize num t = m at *
     cases m
     ·by_cases hp : 0 < t.un.length
      ·have q9 : decide (0 < (t.un.length : Int)) = true := decide_eq_true (by omega)
       replace hE := hE.out
       rw [if_pos ⟨rfl, hp⟩] at hE
       replace hE := Lib.hid hE
       go_wp2_with fail
       go_ret
       exact nu_of (by rw [hE.out]) B2.out
      ·have q9 : decide (0 < (t.un.length : Int)) = false := decide_eq_false (by omega)
       replace hE := hE.out
       rw [if_neg (fun h => hp h.2)] at hE
       replace hE := Lib.hid hE
       go_wp2_with fail
       refine (CU.out _ S0.out).mono ?_
       rintro e w3 ⟨rfl, b3⟩
       have B3 := Lib.hid (bnext B2.out b3)
       replace S0 := Lib.hid (S0.out.keeps b3)
       replace G := Lib.hid (G.out.keeps b3)
       have d1 := G.out.cell 1
       simp only [List.getElem?_toArray, List.getElem?_cons_zero, List.getElem?_cons_succ] at d1
       clear b3 CU
       by_cases hk : un.ck t.un = 0
       ·have q7 : (un.ck t.un != 0) = false := by simp [hk]
        have hI := Lib.hid (show okU t.un = (t.un.drop 0).all fun f => name f.1 by unfold okU; rw [decide_eq_true hk, Bool.true_and, List.drop_zero])
        replace hk := Lib.hid hk
        go_wp2_with fail
        have B9 := B3
        have G9 := G
        have S9 := S0
        clear d1 B3 G S0
        go_loopw [3] (fun vi wr => ∃ (j : Nat), vi = .int .i64 (j : Nat) ∧ Hid (j ≤ t.un.length) ∧ Hid (okU t.un = (t.un.drop j).all fun f => name f.1) ∧ Hid (Below w.heap.size w wr) ∧ Hid (un.Sl wr ua t.un.length uc t.un) ∧ Hid (Blk wr w.heap.size 31 #[.int .i64 t.k, .slice ua t.un.length uc, .string t.of])) (fun vi _ => t.un.length - (intOf vi).toNat)
        case atStart => exact ⟨0, rfl, Lib.hid (Nat.zero_le _), hI, B9, S9, G9⟩
        case round =>
         clear hI B9 S9 G9
         obtain ⟨j, rfl, hj, hI, hb, hS, G⟩ := hrel
         have d0 := G.out.cell 0
         have d1 := G.out.cell 1
         simp only [List.getElem?_toArray, List.getElem?_cons_zero, List.getElem?_cons_succ] at d0 d1
         by_cases hlt : j < t.un.length
         ·exfalso; omega
         ·have q1 : decide ((j : Int) < (t.un.length : Int)) = false := decide_eq_false (by omega)
          replace hI := hI.out
          rw [List.drop_eq_nil_of_le (by omega), List.all_nil] at hI
          replace hE := hE.out
          rw [if_pos hI] at hE
          replace hE := Lib.hid hE
          clear hj hI
          go_wp2_with fail
          go_ret
          exact nu_of (by rw [hE.out]) hb.out
       ·have q7 : (un.ck t.un != 0) = true := by simp [hk]
        replace hE := hE.out
        rw [if_neg (by unfold okU; rw [decide_eq_false hk, Bool.false_and]; decide)] at hE
        replace hE := Lib.hid hE
        replace hk := Lib.hid hk
        go_wp2_with fail
        go_ret
        exact nu_of (by rw [hE.out]) B3.out
     ·replace hE := hE.out
      rw [if_neg (fun h => by cases h.1)] at hE
      replace hE := Lib.hid hE
      go_wp2_with fail
      refine (CU.out _ S0.out).mono ?_
      rintro e w4 ⟨rfl, b4⟩
      have B4 := Lib.hid (bnext B2.out b4)
      replace S0 := Lib.hid (S0.out.keeps b4)
      replace G := Lib.hid (G.out.keeps b4)
      have d1 := G.out.cell 1
      simp only [List.getElem?_toArray, List.getElem?_cons_zero, List.getElem?_cons_succ] at d1
      clear b4 CU
      by_cases hk : un.ck t.un = 0
      ·have q7 : (un.ck t.un != 0) = false := by simp [hk]
       have hI := Lib.hid (show okU t.un = (t.un.drop 0).all fun f => name f.1 by unfold okU; rw [decide_eq_true hk, Bool.true_and, List.drop_zero])
       replace hk := Lib.hid hk
       go_wp2_with fail
       have B9 := B4
       have G9 := G
       have S9 := S0
       clear d1 B4 G S0
       go_loopw [3] (fun vi wr => ∃ (j : Nat), vi = .int .i64 (j : Nat) ∧ Hid (j ≤ t.un.length) ∧ Hid (okU t.un = (t.un.drop j).all fun f => name f.1) ∧ Hid (Below w.heap.size w wr) ∧ Hid (un.Sl wr ua t.un.length uc t.un) ∧ Hid (Blk wr w.heap.size 31 #[.int .i64 t.k, .slice ua t.un.length uc, .string t.of])) (fun vi _ => t.un.length - (intOf vi).toNat)
       case atStart => exact ⟨0, rfl, Lib.hid (Nat.zero_le _), hI, B9, S9, G9⟩
       case round =>
        clear hI B9 S9 G9
        obtain ⟨j, rfl, hj, hI, hb, hS, G⟩ := hrel
        have d0 := G.out.cell 0
        have d1 := G.out.cell 1
        simp only [List.getElem?_toArray, List.getElem?_cons_zero, List.getElem?_cons_succ] at d0 d1
        by_cases hlt : j < t.un.length
        ·have q1 : decide ((j : Int) < (t.un.length : Int)) = true := decide_eq_true (by omega)
         obtain ⟨bk, off, rfl, hC⟩ := hS.out.hat.resolve_left (by omega)
         obtain ⟨c0, c1⟩ := hC j hlt
         have f4 := Lib.hid (next_at (j := j) (by have := hL.out; omega))
         have i1 : (j : Int) < (t.un.length : Int) := by omega
         replace hI := hI.out
         rw [un.drop_gt hlt, List.all_cons] at hI
         replace hI := Lib.hid hI
         clear hC hj
         generalize un.gt t.un j = x at *
         go_wp2_with fail
         refine (CM.out x.1 _).mono ?_
         rintro e w21 ⟨rfl, b21⟩
         have B21 := Lib.hid (bnext hb.out b21)
         replace hS := Lib.hid (hS.out.keeps b21)
         replace G := Lib.hid (G.out.keeps b21)
         clear b21 c0 c1 d0 d1 hb
         generalize name x.1 = q at *
         cases q
         ·replace hE := hE.out
          rw [if_neg (by rw [hI.out, Bool.false_and]; decide)] at hE
          replace hE := Lib.hid hE
          go_wp2_with fail
          go_ret
          exact nu_of (by rw [hE.out]) B21.out
         ·replace hI := Lib.hid (hI.out.trans (Bool.true_and _))
          go_wp2_with fail
          exact ⟨⟨j + 1, congrArg (Value.int .i64) f4.out, Lib.hid hlt, hI, B21, hS, G⟩, less_at hlt f4.out⟩
        ·have q1 : decide ((j : Int) < (t.un.length : Int)) = false := decide_eq_false (by omega)
         replace hI := hI.out
         rw [List.drop_eq_nil_of_le (by omega), List.all_nil] at hI
         replace hE := hE.out
         rw [if_pos hI] at hE
         replace hE := Lib.hid hE
         clear hj hI
         go_wp2_with fail
         go_ret
         exact nu_of (by rw [hE.out]) hb.out
      ·have q7 : (un.ck t.un != 0) = true := by simp [hk]
       replace hE := hE.out
       rw [if_neg (by unfold okU; rw [decide_eq_false hk, Bool.false_and]; decide)] at hE
       replace hE := Lib.hid hE
       replace hk := Lib.hid hk
       go_wp2_with fail
       go_ret
       exact nu_of (by rw [hE.out]) B4.out
   ·have q3 : (t.k == 5) = false := by simp [h3]
    have q4 : (t.k != 5) = true := by simp [h3]
    replace hE := hE.out
    rw [if_neg (fun h => h3 h.1)] at hE
    replace hE := Lib.hid hE
    by_cases h4 : t.of = .empty
    ·have q5 : (!t.of.toList.isEmpty) = false := by simp only [eqE, h4, decide_true, Bool.not_true]
     replace hE := hE.out
     rw [if_neg (fun h => h.2 h4)] at hE
     replace hE := Lib.hid hE
     clear h4 CN
     go_enter Tryz.func29, Tryz.ntmps29
     go_wp2_with (first | (refine arm_loadT infTy Tryz.underlying31 rfl (.tmp 1) rfl rfl _ _ _ rfl G.out rfl ?_))
     refine (CI.out _).mono ?_
     rintro e w22 ⟨rfl, b22⟩
     have B22 := Lib.hid (bnext B0.out b22)
     replace S0 := Lib.hid (S0.out.keeps b22)
     replace G := Lib.hid (G.out.keeps b22)
     have c1 := G.out.cell 1
     simp only [List.getElem?_toArray, List.getElem?_cons_zero, List.getElem?_cons_succ] at c1
     clear b22 CI
     generalize num t = m at *
     cases m
     ·by_cases hp : 0 < t.un.length
      ·have q9 : decide (0 < (t.un.length : Int)) = true := decide_eq_true (by omega)
       replace hE := hE.out
       rw [if_pos ⟨rfl, hp⟩] at hE
       replace hE := Lib.hid hE
       go_wp2_with fail
       go_ret
       exact nu_of (by rw [hE.out]) B22.out
      ·have q9 : decide (0 < (t.un.length : Int)) = false := decide_eq_false (by omega)
       replace hE := hE.out
       rw [if_neg (fun h => hp h.2)] at hE
       replace hE := Lib.hid hE
       go_wp2_with fail
       refine (CU.out _ S0.out).mono ?_
       rintro e w23 ⟨rfl, b23⟩
       have B23 := Lib.hid (bnext B22.out b23)
       replace S0 := Lib.hid (S0.out.keeps b23)
       replace G := Lib.hid (G.out.keeps b23)
       have d1 := G.out.cell 1
       simp only [List.getElem?_toArray, List.getElem?_cons_zero, List.getElem?_cons_succ] at d1
       clear b23 CU
       by_cases hk : un.ck t.un = 0
       ·have q7 : (un.ck t.un != 0) = false := by simp [hk]
        have hI := Lib.hid (show okU t.un = (t.un.drop 0).all fun f => name f.1 by unfold okU; rw [decide_eq_true hk, Bool.true_and, List.drop_zero])
        replace hk := Lib.hid hk
        go_wp2_with fail
        have B9 := B23
        have G9 := G
        have S9 := S0
        clear d1 B23 G S0
        go_loopw [3] (fun vi wr => ∃ (j : Nat), vi = .int .i64 (j : Nat) ∧ Hid (j ≤ t.un.length) ∧ Hid (okU t.un = (t.un.drop j).all fun f => name f.1) ∧ Hid (Below w.heap.size w wr) ∧ Hid (un.Sl wr ua t.un.length uc t.un) ∧ Hid (Blk wr w.heap.size 31 #[.int .i64 t.k, .slice ua t.un.length uc, .string t.of])) (fun vi _ => t.un.length - (intOf vi).toNat)
        case atStart => exact ⟨0, rfl, Lib.hid (Nat.zero_le _), hI, B9, S9, G9⟩
        case round =>
         clear hI B9 S9 G9
         obtain ⟨j, rfl, hj, hI, hb, hS, G⟩ := hrel
         have d0 := G.out.cell 0
         have d1 := G.out.cell 1
         simp only [List.getElem?_toArray, List.getElem?_cons_zero, List.getElem?_cons_succ] at d0 d1
         by_cases hlt : j < t.un.length
         ·exfalso; omega
         ·have q1 : decide ((j : Int) < (t.un.length : Int)) = false := decide_eq_false (by omega)
          replace hI := hI.out
          rw [List.drop_eq_nil_of_le (by omega), List.all_nil] at hI
          replace hE := hE.out
          rw [if_pos hI] at hE
          replace hE := Lib.hid hE
          clear hj hI
          go_wp2_with fail
          go_ret
          exact nu_of (by rw [hE.out]) hb.out
       ·have q7 : (un.ck t.un != 0) = true := by simp [hk]
        replace hE := hE.out
        rw [if_neg (by unfold okU; rw [decide_eq_false hk, Bool.false_and]; decide)] at hE
        replace hE := Lib.hid hE
        replace hk := Lib.hid hk
        go_wp2_with fail
        go_ret
        exact nu_of (by rw [hE.out]) B23.out
     ·replace hE := hE.out
      rw [if_neg (fun h => by cases h.1)] at hE
      replace hE := Lib.hid hE
      go_wp2_with fail
      refine (CU.out _ S0.out).mono ?_
      rintro e w24 ⟨rfl, b24⟩
      have B24 := Lib.hid (bnext B22.out b24)
      replace S0 := Lib.hid (S0.out.keeps b24)
      replace G := Lib.hid (G.out.keeps b24)
      have d1 := G.out.cell 1
      simp only [List.getElem?_toArray, List.getElem?_cons_zero, List.getElem?_cons_succ] at d1
      clear b24 CU
      by_cases hk : un.ck t.un = 0
      ·have q7 : (un.ck t.un != 0) = false := by simp [hk]
       have hI := Lib.hid (show okU t.un = (t.un.drop 0).all fun f => name f.1 by unfold okU; rw [decide_eq_true hk, Bool.true_and, List.drop_zero])
       replace hk := Lib.hid hk
       go_wp2_with fail
       have B9 := B24
       have G9 := G
       have S9 := S0
       clear d1 B24 G S0
       go_loopw [3] (fun vi wr => ∃ (j : Nat), vi = .int .i64 (j : Nat) ∧ Hid (j ≤ t.un.length) ∧ Hid (okU t.un = (t.un.drop j).all fun f => name f.1) ∧ Hid (Below w.heap.size w wr) ∧ Hid (un.Sl wr ua t.un.length uc t.un) ∧ Hid (Blk wr w.heap.size 31 #[.int .i64 t.k, .slice ua t.un.length uc, .string t.of])) (fun vi _ => t.un.length - (intOf vi).toNat)
       case atStart => exact ⟨0, rfl, Lib.hid (Nat.zero_le _), hI, B9, S9, G9⟩
       case round =>
        clear hI B9 S9 G9
        obtain ⟨j, rfl, hj, hI, hb, hS, G⟩ := hrel
        have d0 := G.out.cell 0
        have d1 := G.out.cell 1
        simp only [List.getElem?_toArray, List.getElem?_cons_zero, List.getElem?_cons_succ] at d0 d1
        by_cases hlt : j < t.un.length
        ·have q1 : decide ((j : Int) < (t.un.length : Int)) = true := decide_eq_true (by omega)
         obtain ⟨bk, off, rfl, hC⟩ := hS.out.hat.resolve_left (by omega)
         obtain ⟨c0, c1⟩ := hC j hlt
         have f4 := Lib.hid (next_at (j := j) (by have := hL.out; omega))
         have i1 : (j : Int) < (t.un.length : Int) := by omega
         replace hI := hI.out
         rw [un.drop_gt hlt, List.all_cons] at hI
         replace hI := Lib.hid hI
         clear hC hj
         generalize un.gt t.un j = x at *
         go_wp2_with fail
         refine (CM.out x.1 _).mono ?_
         rintro e w21 ⟨rfl, b21⟩
         have B21 := Lib.hid (bnext hb.out b21)
         replace hS := Lib.hid (hS.out.keeps b21)
         replace G := Lib.hid (G.out.keeps b21)
         clear b21 c0 c1 d0 d1 hb
         generalize name x.1 = q at *
         cases q
         ·replace hE := hE.out
          rw [if_neg (by rw [hI.out, Bool.false_and]; decide)] at hE
          replace hE := Lib.hid hE
          go_wp2_with fail
          go_ret
          exact nu_of (by rw [hE.out]) B21.out
         ·replace hI := Lib.hid (hI.out.trans (Bool.true_and _))
          go_wp2_with fail
          exact ⟨⟨j + 1, congrArg (Value.int .i64) f4.out, Lib.hid hlt, hI, B21, hS, G⟩, less_at hlt f4.out⟩
        ·have q1 : decide ((j : Int) < (t.un.length : Int)) = false := decide_eq_false (by omega)
         replace hI := hI.out
         rw [List.drop_eq_nil_of_le (by omega), List.all_nil] at hI
         replace hE := hE.out
         rw [if_pos hI] at hE
         replace hE := Lib.hid hE
         clear hj hI
         go_wp2_with fail
         go_ret
         exact nu_of (by rw [hE.out]) hb.out
      ·have q7 : (un.ck t.un != 0) = true := by simp [hk]
       replace hE := hE.out
       rw [if_neg (by unfold okU; rw [decide_eq_false hk, Bool.false_and]; decide)] at hE
       replace hE := Lib.hid hE
       replace hk := Lib.hid hk
       go_wp2_with fail
       go_ret
       exact nu_of (by rw [hE.out]) B24.out
    ·have q5 : (!t.of.toList.isEmpty) = true := by simp only [eqE, h4, decide_false, Bool.not_false]
     replace hE := hE.out
     rw [if_pos ⟨h3, h4⟩] at hE
     replace hE := Lib.hid hE
     clear h4 CN CU CI
     go_enter Tryz.func29, Tryz.ntmps29
     go_wp2_with fail
     go_ret
     exact nu_of (by rw [hE.out]) B0.out
end Go.Proofs.YtbahfelnbofjjaaGreatDoor.ch
namespace Go.Proofs.YtbahfelnbofjjaaGreatDoor.ch
open Go.RowKit dec
theorem fl_k {h g : Hd} (e : h.k = g.k) : flR h g = same h g := by
 unfold flR
 rw [decide_eq_true e, Bool.true_and]
def litG (h : Hd) : Hd := { h0 with k := 1, nm := h.nm, vk := h.vk, vn := h.vn, vs := h.vs, un := h.un }
def rliR (h : Hd) : Bool := decide (ck ⟨h.vk, h.vn, h.vs⟩ = 0) && (decide (0 ≤ h.vn) && (decide (tyE ⟨h.vk, h.un, h.nm⟩ = 0) && flR h (litG h)))
theorem rli_is {h : Hd} (e : h.k = 1) : rliR h = litH h := by
 unfold rliR litH
 rw [fl_k (g := litG h) e]
 rfl
theorem rliteral_any (h : Hd) (n : Nat) (ua aa : Option Addr) (uc ac : Nat) (w : World) (hs : h.vs.size ≤ 140737488355328) (hU : un.Sl w ua h.un.length uc h.un) : Calls Tryz.prog 170 #[.agg (exC h n ua uc aa ac)] w (Bl (rliR h) w) := by
 have bb := balloc (b0 w) (.cells (exC h n ua uc aa ac) 29)
 have B0 := Lib.hid bb
 have G := Lib.hid (Blk.new w 29 (exC h n ua uc aa ac))
 have S0 := Lib.hid (hU.keeps bb)
 have CC := Lib.hid (fun (W : World) => rcheck_any h.vk h.vn h.vs hs W)
 have CT := Lib.hid (fun (W : World) (S : un.Sl W ua h.un.length uc h.un) => (show Calls Tryz.prog 29 #[.agg #[.int .i64 h.vk, .slice ua h.un.length uc, .string h.nm]] W (Num (tyE ⟨h.vk, h.un, h.nm⟩) W) from rtype_any ⟨h.vk, h.un, h.nm⟩ ua uc W S))
 have CF := Lib.hid (fun (W : World) (S : un.Sl W ua h.un.length uc h.un) => (show Calls Tryz.prog 70 #[.agg #[.int .i64 h.k, .string h.op, .string h.nm, .string h.tb, .int .i64 h.vk, .int .i64 h.vn, .string h.vs, .slice ua h.un.length uc, .int .i64 h.pa, .int .i64 h.wk, .int .i64 h.ws, .slice aa n ac], .agg #[.int .i64 1, .string ⟨#[]⟩, .string h.nm, .string ⟨#[]⟩, .int .i64 h.vk, .int .i64 h.vn, .string h.vs, .slice ua h.un.length uc, .int .i64 0, .int .i64 0, .int .i64 0, .slice none 0 0]] W (Bl (flR h (litG h)) W) from flat_any h (litG h) n 0 ua ua aa none uc uc ac 0 W S S))
 have hE : rliR h = rliR h := rfl
 conv at hE => rhs; unfold rliR
 replace hE := Lib.hid hE
 clear hU bb
 unfold exC at *
 generalize flR h (litG h) = r at *
 generalize tyE ⟨h.vk, h.un, h.nm⟩ = t at *
 generalize ck ⟨h.vk, h.vn, h.vs⟩ = c at *
 go_enter Tryz.func170, Tryz.ntmps170
 go_wp2_with fail
 refine (CC.out _).mono ?_
 rintro e w1 ⟨rfl, b1⟩
 have B1 := Lib.hid (bnext B0.out b1)
 replace G := Lib.hid (G.out.keeps b1)
 replace S0 := Lib.hid (S0.out.keeps b1)
 have c0 := G.out.cell 0
 have c1 := G.out.cell 1
 have c2 := G.out.cell 2
 have c3 := G.out.cell 3
 have c4 := G.out.cell 4
 have c5 := G.out.cell 5
 have c6 := G.out.cell 6
 have c7 := G.out.cell 7
 have c8 := G.out.cell 8
 have c9 := G.out.cell 9
 have c10 := G.out.cell 10
 have c11 := G.out.cell 11
 simp only [List.getElem?_toArray, List.getElem?_cons_zero, List.getElem?_cons_succ] at c0 c1 c2 c3 c4 c5 c6 c7 c8 c9 c10 c11
 clear b1 CC
 by_cases hc : c = 0
 ·have qc := in_is hc
  have qd : (c != 0) = false := by simp [hc]
  replace hE := hE.out
  rw [decide_eq_true hc, Bool.true_and] at hE
  replace hE := Lib.hid hE
  clear hc
  by_cases hn : 0 ≤ h.vn
  ·have qn : decide (h.vn < 0) = false := decide_eq_false (by omega)
   replace hE := hE.out
   rw [decide_eq_true hn, Bool.true_and] at hE
   replace hE := Lib.hid hE
   clear hn
   go_upto_region 4 with (first | (refine arm_storeT infTy (.tmp 3) (.tmp 21) rfl rfl _ _ _ _ rfl rfl (Blk.new _ _ _) rfl rfl (by simp [Value.oneCell']) ?_; intro w2 L hs2; have bb := (balloc (b0 w1) _).trans (hs2.below (Nat.le_refl _))))
   have B2 := Lib.hid (bnext B1.out bb)
   have V3 := Lib.hid L
   replace G := Lib.hid (G.out.keeps bb)
   replace S0 := Lib.hid (S0.out.keeps bb)
   clear L hs2 bb c0 c1 c2 c3 c4 c5 c6 c7 c8 c9 c10 c11
   generalize w1.heap.size = g3 at *
   go_wp2_with (first | (refine arm_loadT infTy Tryz.underlying31 rfl (.tmp 3) rfl rfl _ _ _ rfl V3.out rfl ?_))
   refine (CT.out _ S0.out).mono ?_
   rintro e w3 ⟨rfl, b3⟩
   have B3 := Lib.hid (bnext B2.out b3)
   replace G := Lib.hid (G.out.keeps b3)
   replace S0 := Lib.hid (S0.out.keeps b3)
   have c2 := G.out.cell 2
   have c4 := G.out.cell 4
   have c5 := G.out.cell 5
   have c6 := G.out.cell 6
   have c7 := G.out.cell 7
   simp only [List.getElem?_toArray, List.getElem?_cons_zero, List.getElem?_cons_succ] at c2 c4 c5 c6 c7
   clear b3 CT V3
   have c456 := Lib.hid (blk_range G.out 4 [.int .i64 h.vk, .int .i64 h.vn, .string h.vs] rfl)
   by_cases ht : t = 0
   ·have qt := in_is ht
    replace hE := hE.out
    rw [decide_eq_true ht, Bool.true_and] at hE
    replace hE := Lib.hid hE
    clear ht
    go_wp2_with (first | (refine arm_loadG infX Tryz.underlying29 rfl (.tmp 1) rfl rfl _ _ _ rfl G.out rfl ?_) | (refine arm_loadT infX Tryz.underlying29 rfl (.tmp 1) rfl rfl _ _ _ rfl G.out rfl ?_))
    refine (CF.out _ S0.out).mono ?_
    rintro e w4 ⟨rfl, b4⟩
    have B4 := Lib.hid (bnext B3.out b4)
    clear b4 CF
    go_wp2_with fail
    go_ret
    exact bl_of (by rw [hE.out]) B4.out
   ·have qt := in_ne ht
    replace hE := hE.out
    rw [decide_eq_false ht, Bool.false_and] at hE
    replace hE := Lib.hid hE
    clear ht
    go_wp2_with fail
    go_ret
    exact bl_of (by rw [hE.out]) B3.out
  ·have qn : decide (h.vn < 0) = true := decide_eq_true (by omega)
   replace hE := hE.out
   rw [decide_eq_false hn, Bool.false_and] at hE
   replace hE := Lib.hid hE
   clear hn
   go_wp2_with fail
   go_ret
   exact bl_of (by rw [hE.out]) B1.out
 ·have qc := in_ne hc
  have qd : (c != 0) = true := by simp [hc]
  replace hE := hE.out
  rw [decide_eq_false hc, Bool.false_and] at hE
  replace hE := Lib.hid hE
  clear hc
  go_wp2_with fail
  go_ret
  exact bl_of (by rw [hE.out]) B1.out
end Go.Proofs.YtbahfelnbofjjaaGreatDoor.ch

/-
  The reference's rule of proper form of one node; The reference's rule of one node and that of package checker.
-/
import Derived.Test.YtbahfelnbofjjaaGreatDoorT17
import Derived.Test.YtbahfelnbofjjaaGreatDoorT19
import Derived.Test.YtbahfelnbofjjaaGreatDoorT20
set_option maxRecDepth 100000
set_option maxHeartbeats 16000000
namespace Go.Proofs.YtbahfelnbofjjaaGreatDoor.ch
open Go.RowKit dec
def unaL : List ByteArray := [⟨#[45]⟩, ⟨#[110, 111, 116]⟩, ⟨#[110, 117, 108, 108]⟩]
def nmG (h : Hd) : Hd := { h0 with k := h.k, nm := h.nm }
def opG (h : Hd) : Hd := { h0 with k := h.k, op := h.op }
def rnam (h : Hd) : Bool := name h.nm && flR h (nmG h)
def ropr (h : Hd) : Bool := flR h (opG h)
def arN (k : Int) : Int := if k = 4 then 1 else if k = 5 then 2 else if k = 6 then 1 else if k = 7 then 2 else if k = 8 then 3 else if k = 9 then 2 else 0
def rnoR (i : Bool) (h : Hd) : Bool :=
 if h.k = 1 then rliR h else if h.k = 2 then i && rnam h else if h.k = 3 then !i && rnam h else if h.k = 4 then !i && rnam h else if h.k = 5 then !i && ragR h
 else if h.k = 6 then ropr h && (unaL.any fun t => decide (t = h.op)) else if h.k = 7 then ropr h && (opsL.any fun t => decide (t = h.op))
 else if h.k = 8 then ropr h && decide (h.op = .empty) else if h.k = 9 then ropr h && decide (h.op = .empty) else false
def No (k : Int) (b : Bool) (w : World) (e : Ending) (w' : World) : Prop := e = .returned (.tuple #[.int .i64 k, .bool b]) ∧ Below w.heap.size w w'
theorem no_of {k k' : Int} {b b' : Bool} {w w' : World} (h : k = k' ∧ b = b') (hb : Below w.heap.size w w') : No k' b' w (.returned (.tuple #[.int .i64 k, .bool b])) w' := by
 obtain ⟨rfl, rfl⟩ := h
 exact ⟨rfl, hb⟩
theorem em_eq (s : ByteArray) : s.toList.isEmpty = decide (s = .empty) := by
 rw [show s.toList.isEmpty = (s.toList == []) from by cases s.toList <;> rfl]
 exact eqL s []
theorem rnode_any (i : Bool) (h : Hd) (n : Nat) (ua aa : Option Addr) (uc ac : Nat) (w : World) (hs : h.vs.size ≤ 140737488355328) (hU : un.Sl w ua h.un.length uc h.un) : Calls Tryz.prog 121 #[.agg (exC h n ua uc aa ac), .bool i] w (No (arN h.k) (rnoR i h) w) := by
 have bb := balloc (b0 w) (.cells (exC h n ua uc aa ac) 29)
 have B0 := Lib.hid bb
 have G := Lib.hid (Blk.new w 29 (exC h n ua uc aa ac))
 have S0 := Lib.hid (hU.keeps bb)
 have CN := Lib.hid (fun (W : World) => rname_any h.nm W)
 have CF := Lib.hid (fun (W : World) (S : un.Sl W ua h.un.length uc h.un) => (show Calls Tryz.prog 70 #[.agg #[.int .i64 h.k, .string h.op, .string h.nm, .string h.tb, .int .i64 h.vk, .int .i64 h.vn, .string h.vs, .slice ua h.un.length uc, .int .i64 h.pa, .int .i64 h.wk, .int .i64 h.ws, .slice aa n ac], .agg #[.int .i64 h.k, .string ⟨#[]⟩, .string h.nm, .string ⟨#[]⟩, .int .i64 0, .int .i64 0, .string ⟨#[]⟩, .slice none 0 0, .int .i64 0, .int .i64 0, .int .i64 0, .slice none 0 0]] W (Bl (flR h (nmG h)) W) from flat_any h (nmG h) n 0 ua none aa none uc 0 ac 0 W S (un.Sl.nil W)))
 have CO := Lib.hid (fun (W : World) (S : un.Sl W ua h.un.length uc h.un) => (show Calls Tryz.prog 70 #[.agg #[.int .i64 h.k, .string h.op, .string h.nm, .string h.tb, .int .i64 h.vk, .int .i64 h.vn, .string h.vs, .slice ua h.un.length uc, .int .i64 h.pa, .int .i64 h.wk, .int .i64 h.ws, .slice aa n ac], .agg #[.int .i64 h.k, .string h.op, .string ⟨#[]⟩, .string ⟨#[]⟩, .int .i64 0, .int .i64 0, .string ⟨#[]⟩, .slice none 0 0, .int .i64 0, .int .i64 0, .int .i64 0, .slice none 0 0]] W (Bl (ropr h) W) from flat_any h (opG h) n 0 ua none aa none uc 0 ac 0 W S (un.Sl.nil W)))
 have CL := Lib.hid (fun (W : World) (S : un.Sl W ua h.un.length uc h.un) => (show Calls Tryz.prog 170 #[.agg #[.int .i64 h.k, .string h.op, .string h.nm, .string h.tb, .int .i64 h.vk, .int .i64 h.vn, .string h.vs, .slice ua h.un.length uc, .int .i64 h.pa, .int .i64 h.wk, .int .i64 h.ws, .slice aa n ac]] W (Bl (rliR h) W) from rliteral_any h n ua aa uc ac W hs S))
 have CA := Lib.hid (fun (W : World) (S : un.Sl W ua h.un.length uc h.un) => (show Calls Tryz.prog 171 #[.agg #[.int .i64 h.k, .string h.op, .string h.nm, .string h.tb, .int .i64 h.vk, .int .i64 h.vn, .string h.vs, .slice ua h.un.length uc, .int .i64 h.pa, .int .i64 h.wk, .int .i64 h.ws, .slice aa n ac]] W (Bl (ragR h) W) from raggregate_any h n ua aa uc ac W S))
 have C1 := Lib.hid (fun (W : World) => operators_any W)
 have C2 := Lib.hid (fun (a : Option Addr) (W : World) (S : SsV W a opsL) => (show Calls Tryz.prog 146 #[.string h.op, .slice a 10 10] W (Bl (opsL.any fun t => decide (t = h.op)) W) from (one_any h.op a 10 opsL (by decide) W S).mono fun _ _ hh => ⟨hh.1, hh.2 ▸ b0 W⟩))
 have C3 := Lib.hid (fun (a : Option Addr) (W : World) (S : SsV W a unaL) => (show Calls Tryz.prog 146 #[.string h.op, .slice a 3 3] W (Bl (unaL.any fun t => decide (t = h.op)) W) from (one_any h.op a 3 unaL (by decide) W S).mono fun _ _ hh => ⟨hh.1, hh.2 ▸ b0 W⟩))
 have hN : rnam h = (name h.nm && flR h (nmG h)) := rfl
 replace hN := Lib.hid hN
 clear hU bb hs
 unfold exC at *
 generalize name h.nm = N at *
 generalize flR h (nmG h) = F at *
 generalize hr : ropr h = R at *
 replace hr := Lib.hid hr
 generalize hm : rnam h = M at *
 replace hm := Lib.hid hm
 generalize hl : rliR h = L at *
 replace hl := Lib.hid hl
 generalize hg : ragR h = A at *
 replace hg := Lib.hid hg
 generalize ho : (opsL.any fun t => decide (t = h.op)) = O at *
 replace ho := Lib.hid ho
 generalize hu : (unaL.any fun t => decide (t = h.op)) = U at *
 replace hu := Lib.hid hu
 go_enter Tryz.func121, Tryz.ntmps121
 go_upto_region 1 with fail
 generalize hw0 : (w.alloc (.cells #[.int .i64 h.k, .string h.op, .string h.nm, .string h.tb, .int .i64 h.vk, .int .i64 h.vn, .string h.vs, .slice ua h.un.length uc, .int .i64 h.pa, .int .i64 h.wk, .int .i64 h.ws, .slice aa n ac] 29)) = w0 at *
 clear hw0
 go_cut [6] from 8 to 20 (fun v wx => v = .bool M ∧ Hid (Below w0.heap.size w0 wx))
 case first =>
  have c2 := G.out.cell 2
  simp only [List.getElem?_toArray, List.getElem?_cons_zero, List.getElem?_cons_succ] at c2
  go_wp2_with fail
  have D0 := Lib.hid (b0 w0)
  refine (CN.out _).mono ?_
  rintro e w1 ⟨rfl, b1⟩
  have B1 := Lib.hid (bnext D0.out b1)
  replace G := Lib.hid (G.out.keeps b1)
  replace S0 := Lib.hid (S0.out.keeps b1)
  clear b1
  have d0 := G.out.cell 0
  have d2 := G.out.cell 2
  simp only [List.getElem?_toArray, List.getElem?_cons_zero, List.getElem?_cons_succ] at d0 d2
  cases N
  ·go_wp2_with fail
   go_meet
   case rel => exact ⟨congrArg Value.bool (by rw [hN.out]; rfl), B1⟩
  ·go_wp2_with (first | (refine arm_loadT infX Tryz.underlying29 rfl (.tmp 2) rfl rfl _ _ _ rfl G.out rfl ?_) | (refine arm_loadG infX Tryz.underlying29 rfl (.tmp 2) rfl rfl _ _ _ rfl G.out rfl ?_))
   refine (CF.out _ S0.out).mono ?_
   rintro e w2 ⟨rfl, b2⟩
   have B2 := Lib.hid (bnext B1.out b2)
   replace G := Lib.hid (G.out.keeps b2)
   replace S0 := Lib.hid (S0.out.keeps b2)
   clear b2
   go_wp2_with fail
   go_meet
   case rel => exact ⟨congrArg Value.bool (by rw [hN.out]; rfl), B2⟩
 case rest =>
  obtain ⟨rfl, BW⟩ := hcut
  generalize wc = w3 at *
  have bw := BW.out
  clear BW hN CN CF
  have B3 := Lib.hid (bnext B0.out bw)
  replace G := Lib.hid (G.out.keeps bw)
  replace S0 := Lib.hid (S0.out.keeps bw)
  clear bw
  have c0 := G.out.cell 0
  have c1 := G.out.cell 1
  simp only [List.getElem?_toArray, List.getElem?_cons_zero, List.getElem?_cons_succ] at c0 c1
  go_wp2_with (first | (refine arm_loadT infX Tryz.underlying29 rfl (.tmp 2) rfl rfl _ _ _ rfl G.out rfl ?_) | (refine arm_loadG infX Tryz.underlying29 rfl (.tmp 2) rfl rfl _ _ _ rfl G.out rfl ?_))
  refine (CO.out _ S0.out).mono ?_
  rintro e w4 ⟨rfl, b4⟩
  have B4 := Lib.hid (bnext B3.out b4)
  replace G := Lib.hid (G.out.keeps b4)
  replace S0 := Lib.hid (S0.out.keeps b4)
  clear b4
  have c0 := G.out.cell 0
  have c1 := G.out.cell 1
  simp only [List.getElem?_toArray, List.getElem?_cons_zero, List.getElem?_cons_succ] at c0 c1
  clear CO
  by_cases hk1 : h.k = 1
  ·have q1 := in_is hk1
   replace hk1 := Lib.hid hk1
   go_wp2_with (first | (refine arm_loadT infX Tryz.underlying29 rfl (.tmp 2) rfl rfl _ _ _ rfl G.out rfl ?_) | (refine arm_loadG infX Tryz.underlying29 rfl (.tmp 2) rfl rfl _ _ _ rfl G.out rfl ?_))
   refine (CL.out _ S0.out).mono ?_
   rintro e w5 ⟨rfl, b5⟩
   have B5 := Lib.hid (bnext B4.out b5)
   replace G := Lib.hid (G.out.keeps b5)
   replace S0 := Lib.hid (S0.out.keeps b5)
   clear b5
   go_wp2_with fail
   go_ret2
   exact no_of (by unfold arN rnoR; simp [hk1.out, hl.out]) B5.out
  ·have q1 := in_ne hk1
   replace hk1 := Lib.hid hk1
   by_cases hk2 : h.k = 2
   ·have q2 := in_is hk2
    replace hk2 := Lib.hid hk2
    cases i
    ·go_wp2_with fail
     go_ret2
     exact no_of (by unfold arN rnoR; simp [hk2.out, hm.out]) B4.out
    ·go_wp2_with fail
     go_ret2
     exact no_of (by unfold arN rnoR; simp [hk2.out, hm.out]) B4.out
   ·have q2 := in_ne hk2
    replace hk2 := Lib.hid hk2
    by_cases hk3 : h.k = 3
    ·have q3 := in_is hk3
     replace hk3 := Lib.hid hk3
     cases i
     ·go_wp2_with fail
      go_ret2
      exact no_of (by unfold arN rnoR; simp [hk3.out, hm.out]) B4.out
     ·go_wp2_with fail
      go_ret2
      exact no_of (by unfold arN rnoR; simp [hk3.out, hm.out]) B4.out
    ·have q3 := in_ne hk3
     replace hk3 := Lib.hid hk3
     by_cases hk4 : h.k = 4
     ·have q4 := in_is hk4
      replace hk4 := Lib.hid hk4
      cases i
      ·go_wp2_with fail
       go_ret2
       exact no_of (by unfold arN rnoR; simp [hk4.out, hm.out]) B4.out
      ·go_wp2_with fail
       go_ret2
       exact no_of (by unfold arN rnoR; simp [hk4.out, hm.out]) B4.out
     ·have q4 := in_ne hk4
      replace hk4 := Lib.hid hk4
      by_cases hk5 : h.k = 5
      ·have q5 := in_is hk5
       replace hk5 := Lib.hid hk5
       cases i
       ·go_wp2_with (first | (refine arm_loadT infX Tryz.underlying29 rfl (.tmp 2) rfl rfl _ _ _ rfl G.out rfl ?_) | (refine arm_loadG infX Tryz.underlying29 rfl (.tmp 2) rfl rfl _ _ _ rfl G.out rfl ?_))
        refine (CA.out _ S0.out).mono ?_
        rintro e w5 ⟨rfl, b5⟩
        have B5 := Lib.hid (bnext B4.out b5)
        replace G := Lib.hid (G.out.keeps b5)
        replace S0 := Lib.hid (S0.out.keeps b5)
        clear b5
        go_wp2_with fail
        go_ret2
        exact no_of (by unfold arN rnoR; simp [hk5.out, hg.out]) B5.out
       ·go_wp2_with fail
        go_ret2
        exact no_of (by unfold arN rnoR; simp [hk5.out]) B4.out
      ·have q5 := in_ne hk5
       replace hk5 := Lib.hid hk5
       by_cases hk6 : h.k = 6
       ·have q6 := in_is hk6
        replace hk6 := Lib.hid hk6
        cases R
        ·go_wp2_with fail
         go_ret2
         exact no_of (by unfold arN rnoR; simp [hk6.out, hr.out]) B4.out
        ·go_wp2_with fail
         have bu := balloc (b0 w4) (.cells (unaL.map Value.string).toArray 9)
         refine (C3.out _ _ (ss_blk (l := unaL) (Blk.new _ _ _))).mono ?_
         rintro e w5 ⟨rfl, b5⟩
         have B5 := Lib.hid (bnext (bnext B4.out bu) b5)
         clear b5 bu
         go_wp2_with fail
         go_ret2
         exact no_of (by unfold arN rnoR; simp [hk6.out, hr.out, hu.out]) B5.out
       ·have q6 := in_ne hk6
        replace hk6 := Lib.hid hk6
        by_cases hk7 : h.k = 7
        ·have q7 := in_is hk7
         replace hk7 := Lib.hid hk7
         go_upto_region 17 with fail
         go_cut [4, 5] from 72 to 79 (fun va vb wx => va = .int .i64 2 ∧ vb = .bool (R && O) ∧ Hid (Below w4.heap.size w4 wx))
         case first =>
          refine wp_region_held_drew (S := fun w' => Below w4.heap.size w4 w') (by kernel_rfl) (b0 w4).drew (fun hH => ?_)
          refine held_take (i := 0) (d := 72) (v := ?_) rfl (by kernel_rfl) (by kernel_rfl) (by kernel_rfl) rfl (fun _ _ _ h => h) rfl hH (fun w' hS => ?_) ?_
          rotate_left
          ·go_simp; first | done | with_reducible rfl
          simp only [List.set_cons_zero, List.set_cons_succ]
          refine held_take (i := 1) (d := 73) (v := ?_) rfl (by kernel_rfl) (by kernel_rfl) (by kernel_rfl) rfl (fun _ _ _ h => h) rfl hH (fun w' hS => ?_) ?_
          rotate_left
          ·go_simp; first | done | with_reducible rfl
          simp only [List.set_cons_zero, List.set_cons_succ]
          generalize w4.drew = yy at *
          cases R
          ·refine off_take (i := 2) (d := 74) rfl (by kernel_rfl) (by kernel_rfl) (by kernel_rfl) rfl (fun _ _ _ h => h) rfl hH ?_
           simp only [List.set_cons_zero, List.set_cons_succ]
           refine off_take (i := 3) (d := 75) rfl (by kernel_rfl) (by kernel_rfl) (by kernel_rfl) rfl (fun _ _ _ h => h) rfl hH ?_
           simp only [List.set_cons_zero, List.set_cons_succ]
           refine off_one (i := 4) rfl (by kernel_rfl) rfl hH ?_
           go_simp
           refine off_one (i := 5) rfl (by kernel_rfl) rfl hH ?_
           go_simp
           refine held_take (i := 6) (d := 78) (v := ?_) rfl (by kernel_rfl) (by kernel_rfl) (by kernel_rfl) rfl (fun _ _ _ h => h) rfl hH (fun w' hS => ?_) ?_
           rotate_left
           ·go_simp; first | done | with_reducible rfl
           simp only [List.set_cons_zero, List.set_cons_succ]
           refine held_take (i := 7) (d := 4) (v := ?_) rfl (by kernel_rfl) (by kernel_rfl) (by kernel_rfl) rfl (fun _ _ _ h => h) rfl hH (fun w' hS => ?_) ?_
           rotate_left
           ·go_simp; first | done | with_reducible rfl
           simp only [List.set_cons_zero, List.set_cons_succ]
           refine held_take (i := 8) (d := 5) (v := ?_) rfl (by kernel_rfl) (by kernel_rfl) (by kernel_rfl) rfl (fun _ _ _ h => h) rfl hH (fun w' hS => ?_) ?_
           rotate_left
           ·go_simp; first | done | with_reducible rfl
           simp only [List.set_cons_zero, List.set_cons_succ]
           refine wpAnyH_done (by kernel_rfl) ?_ _
           go_wp2_with fail
           go_meet
           case rel => exact ⟨rfl, rfl, Lib.hid hH⟩
          ·refine held_take (i := 2) (d := 74) (v := ?_) rfl (by kernel_rfl) (by kernel_rfl) (by kernel_rfl) rfl (fun _ _ _ h => h) rfl hH (fun w' hS => ?_) ?_
           rotate_left
           ·go_simp; first | done | with_reducible rfl
           simp only [List.set_cons_zero, List.set_cons_succ]
           refine held_take (i := 3) (d := 75) (v := ?_) rfl (by kernel_rfl) (by kernel_rfl) (by kernel_rfl) rfl (fun _ _ _ h => h) rfl hH (fun w' hS => ?_) ?_
           rotate_left
           ·have m1 := (G.out.keeps hS).cell 1; simp only [List.getElem?_toArray, List.getElem?_cons_zero, List.getElem?_cons_succ] at m1; go_simp; first | done | with_reducible rfl
           simp only [List.set_cons_zero, List.set_cons_succ]
           refine held_only (i := 4) rfl (by kernel_rfl) rfl (fun K hK => ?_)
           go_simp
           refine (C1.out _).mono ?_
           rintro e y71 ⟨ag, rfl, sag, b71⟩
           skip
           refine hK.out _ _ (bnext hH b71) (fun hH => ?_)
           clear hK K
           have SA := Lib.hid sag
           clear b71 sag
           refine held_only (i := 5) rfl (by kernel_rfl) rfl (fun K hK => ?_)
           go_simp
           refine (C2.out ag _ SA.out).mono ?_
           rintro e y72 ⟨rfl, b72⟩
           skip
           refine hK.out _ _ (bnext hH b72) (fun hH => ?_)
           clear hK K
           replace SA := Lib.hid (SA.out.keeps b72)
           clear b72
           refine held_take (i := 6) (d := 78) (v := ?_) rfl (by kernel_rfl) (by kernel_rfl) (by kernel_rfl) rfl (fun _ _ _ h => h) rfl hH (fun w' hS => ?_) ?_
           rotate_left
           ·go_simp; first | done | with_reducible rfl
           simp only [List.set_cons_zero, List.set_cons_succ]
           refine held_take (i := 7) (d := 4) (v := ?_) rfl (by kernel_rfl) (by kernel_rfl) (by kernel_rfl) rfl (fun _ _ _ h => h) rfl hH (fun w' hS => ?_) ?_
           rotate_left
           ·go_simp; first | done | with_reducible rfl
           simp only [List.set_cons_zero, List.set_cons_succ]
           refine held_take (i := 8) (d := 5) (v := ?_) rfl (by kernel_rfl) (by kernel_rfl) (by kernel_rfl) rfl (fun _ _ _ h => h) rfl hH (fun w' hS => ?_) ?_
           rotate_left
           ·go_simp; first | done | with_reducible rfl
           simp only [List.set_cons_zero, List.set_cons_succ]
           refine wpAnyH_done (by kernel_rfl) ?_ _
           go_wp2_with fail
           go_meet
           case rel => exact ⟨rfl, rfl, Lib.hid hH⟩
         case rest =>
          obtain ⟨rfl, rfl, BW⟩ := hcut
          have Bx := Lib.hid (bnext B4.out BW.out)
          go_wp2_with fail
          go_ret2
          exact no_of (by unfold arN rnoR; simp [hk7.out, hr.out, ho.out]) Bx.out
        ·have q7 := in_ne hk7
         replace hk7 := Lib.hid hk7
         by_cases hk8 : h.k = 8
         ·have q8 := in_is hk8
          replace hk8 := Lib.hid hk8
          go_upto_region 19 with fail
          go_cut [4, 5] from 81 to 87 (fun va vb wx => va = .int .i64 3 ∧ vb = .bool (R && decide (h.op = .empty)) ∧ Hid (Below w4.heap.size w4 wx))
          case first =>
           refine wp_region_held_drew (S := fun w' => Below w4.heap.size w4 w') (by kernel_rfl) (b0 w4).drew (fun hH => ?_)
           refine held_take (i := 0) (d := 81) (v := ?_) rfl (by kernel_rfl) (by kernel_rfl) (by kernel_rfl) rfl (fun _ _ _ h => h) rfl hH (fun w' hS => ?_) ?_
           rotate_left
           ·go_simp; first | done | with_reducible rfl
           simp only [List.set_cons_zero, List.set_cons_succ]
           refine held_take (i := 1) (d := 82) (v := ?_) rfl (by kernel_rfl) (by kernel_rfl) (by kernel_rfl) rfl (fun _ _ _ h => h) rfl hH (fun w' hS => ?_) ?_
           rotate_left
           ·go_simp; first | done | with_reducible rfl
           simp only [List.set_cons_zero, List.set_cons_succ]
           generalize w4.drew = yy at *
           cases R
           ·refine off_take (i := 2) (d := 83) rfl (by kernel_rfl) (by kernel_rfl) (by kernel_rfl) rfl (fun _ _ _ h => h) rfl hH ?_
            simp only [List.set_cons_zero, List.set_cons_succ]
            refine off_take (i := 3) (d := 84) rfl (by kernel_rfl) (by kernel_rfl) (by kernel_rfl) rfl (fun _ _ _ h => h) rfl hH ?_
            simp only [List.set_cons_zero, List.set_cons_succ]
            refine off_take (i := 4) (d := 85) rfl (by kernel_rfl) (by kernel_rfl) (by kernel_rfl) rfl (fun _ _ _ h => h) rfl hH ?_
            simp only [List.set_cons_zero, List.set_cons_succ]
            refine held_take (i := 5) (d := 86) (v := ?_) rfl (by kernel_rfl) (by kernel_rfl) (by kernel_rfl) rfl (fun _ _ _ h => h) rfl hH (fun w' hS => ?_) ?_
            rotate_left
            ·go_simp; first | done | with_reducible rfl
            simp only [List.set_cons_zero, List.set_cons_succ]
            refine held_take (i := 6) (d := 4) (v := ?_) rfl (by kernel_rfl) (by kernel_rfl) (by kernel_rfl) rfl (fun _ _ _ h => h) rfl hH (fun w' hS => ?_) ?_
            rotate_left
            ·go_simp; first | done | with_reducible rfl
            simp only [List.set_cons_zero, List.set_cons_succ]
            refine held_take (i := 7) (d := 5) (v := ?_) rfl (by kernel_rfl) (by kernel_rfl) (by kernel_rfl) rfl (fun _ _ _ h => h) rfl hH (fun w' hS => ?_) ?_
            rotate_left
            ·go_simp; first | done | with_reducible rfl
            simp only [List.set_cons_zero, List.set_cons_succ]
            refine wpAnyH_done (by kernel_rfl) ?_ _
            go_wp2_with fail
            go_meet
            case rel => exact ⟨rfl, rfl, Lib.hid hH⟩
           ·refine held_take (i := 2) (d := 83) (v := ?_) rfl (by kernel_rfl) (by kernel_rfl) (by kernel_rfl) rfl (fun _ _ _ h => h) rfl hH (fun w' hS => ?_) ?_
            rotate_left
            ·go_simp; first | done | with_reducible rfl
            simp only [List.set_cons_zero, List.set_cons_succ]
            refine held_take (i := 3) (d := 84) (v := ?_) rfl (by kernel_rfl) (by kernel_rfl) (by kernel_rfl) rfl (fun _ _ _ h => h) rfl hH (fun w' hS => ?_) ?_
            rotate_left
            ·have m1 := (G.out.keeps hS).cell 1; simp only [List.getElem?_toArray, List.getElem?_cons_zero, List.getElem?_cons_succ] at m1; go_simp; first | done | with_reducible rfl
            simp only [List.set_cons_zero, List.set_cons_succ]
            refine held_take (i := 4) (d := 85) (v := ?_) rfl (by kernel_rfl) (by kernel_rfl) (by kernel_rfl) rfl (fun _ _ _ h => h) rfl hH (fun w' hS => ?_) ?_
            rotate_left
            ·go_simp; first | done | with_reducible rfl
            simp only [List.set_cons_zero, List.set_cons_succ]
            refine held_take (i := 5) (d := 86) (v := ?_) rfl (by kernel_rfl) (by kernel_rfl) (by kernel_rfl) rfl (fun _ _ _ h => h) rfl hH (fun w' hS => ?_) ?_
            rotate_left
            ·go_simp; first | done | with_reducible rfl
            simp only [List.set_cons_zero, List.set_cons_succ]
            refine held_take (i := 6) (d := 4) (v := ?_) rfl (by kernel_rfl) (by kernel_rfl) (by kernel_rfl) rfl (fun _ _ _ h => h) rfl hH (fun w' hS => ?_) ?_
            rotate_left
            ·go_simp; first | done | with_reducible rfl
            simp only [List.set_cons_zero, List.set_cons_succ]
            refine held_take (i := 7) (d := 5) (v := ?_) rfl (by kernel_rfl) (by kernel_rfl) (by kernel_rfl) rfl (fun _ _ _ h => h) rfl hH (fun w' hS => ?_) ?_
            rotate_left
            ·go_simp; first | done | with_reducible rfl
            simp only [List.set_cons_zero, List.set_cons_succ]
            refine wpAnyH_done (by kernel_rfl) ?_ _
            go_wp2_with fail
            go_meet
            case rel => exact ⟨rfl, congrArg Value.bool (em_eq h.op), Lib.hid hH⟩
          case rest =>
           obtain ⟨rfl, rfl, BW⟩ := hcut
           have Bx := Lib.hid (bnext B4.out BW.out)
           go_wp2_with fail
           go_ret2
           exact no_of (by unfold arN rnoR; simp [hk8.out, hr.out]) Bx.out
         ·have q8 := in_ne hk8
          replace hk8 := Lib.hid hk8
          by_cases hk9 : h.k = 9
          ·have q9 := in_is hk9
           replace hk9 := Lib.hid hk9
           go_upto_region 21 with fail
           go_cut [4, 5] from 89 to 95 (fun va vb wx => va = .int .i64 2 ∧ vb = .bool (R && decide (h.op = .empty)) ∧ Hid (Below w4.heap.size w4 wx))
           case first =>
            refine wp_region_held_drew (S := fun w' => Below w4.heap.size w4 w') (by kernel_rfl) (b0 w4).drew (fun hH => ?_)
            refine held_take (i := 0) (d := 89) (v := ?_) rfl (by kernel_rfl) (by kernel_rfl) (by kernel_rfl) rfl (fun _ _ _ h => h) rfl hH (fun w' hS => ?_) ?_
            rotate_left
            ·go_simp; first | done | with_reducible rfl
            simp only [List.set_cons_zero, List.set_cons_succ]
            refine held_take (i := 1) (d := 90) (v := ?_) rfl (by kernel_rfl) (by kernel_rfl) (by kernel_rfl) rfl (fun _ _ _ h => h) rfl hH (fun w' hS => ?_) ?_
            rotate_left
            ·go_simp; first | done | with_reducible rfl
            simp only [List.set_cons_zero, List.set_cons_succ]
            generalize w4.drew = yy at *
            cases R
            ·refine off_take (i := 2) (d := 91) rfl (by kernel_rfl) (by kernel_rfl) (by kernel_rfl) rfl (fun _ _ _ h => h) rfl hH ?_
             simp only [List.set_cons_zero, List.set_cons_succ]
             refine off_take (i := 3) (d := 92) rfl (by kernel_rfl) (by kernel_rfl) (by kernel_rfl) rfl (fun _ _ _ h => h) rfl hH ?_
             simp only [List.set_cons_zero, List.set_cons_succ]
             refine off_take (i := 4) (d := 93) rfl (by kernel_rfl) (by kernel_rfl) (by kernel_rfl) rfl (fun _ _ _ h => h) rfl hH ?_
             simp only [List.set_cons_zero, List.set_cons_succ]
             refine held_take (i := 5) (d := 94) (v := ?_) rfl (by kernel_rfl) (by kernel_rfl) (by kernel_rfl) rfl (fun _ _ _ h => h) rfl hH (fun w' hS => ?_) ?_
             rotate_left
             ·go_simp; first | done | with_reducible rfl
             simp only [List.set_cons_zero, List.set_cons_succ]
             refine held_take (i := 6) (d := 4) (v := ?_) rfl (by kernel_rfl) (by kernel_rfl) (by kernel_rfl) rfl (fun _ _ _ h => h) rfl hH (fun w' hS => ?_) ?_
             rotate_left
             ·go_simp; first | done | with_reducible rfl
             simp only [List.set_cons_zero, List.set_cons_succ]
             refine held_take (i := 7) (d := 5) (v := ?_) rfl (by kernel_rfl) (by kernel_rfl) (by kernel_rfl) rfl (fun _ _ _ h => h) rfl hH (fun w' hS => ?_) ?_
             rotate_left
             ·go_simp; first | done | with_reducible rfl
             simp only [List.set_cons_zero, List.set_cons_succ]
             refine wpAnyH_done (by kernel_rfl) ?_ _
             go_wp2_with fail
             go_meet
             case rel => exact ⟨rfl, rfl, Lib.hid hH⟩
            ·refine held_take (i := 2) (d := 91) (v := ?_) rfl (by kernel_rfl) (by kernel_rfl) (by kernel_rfl) rfl (fun _ _ _ h => h) rfl hH (fun w' hS => ?_) ?_
             rotate_left
             ·go_simp; first | done | with_reducible rfl
             simp only [List.set_cons_zero, List.set_cons_succ]
             refine held_take (i := 3) (d := 92) (v := ?_) rfl (by kernel_rfl) (by kernel_rfl) (by kernel_rfl) rfl (fun _ _ _ h => h) rfl hH (fun w' hS => ?_) ?_
             rotate_left
             ·have m1 := (G.out.keeps hS).cell 1; simp only [List.getElem?_toArray, List.getElem?_cons_zero, List.getElem?_cons_succ] at m1; go_simp; first | done | with_reducible rfl
             simp only [List.set_cons_zero, List.set_cons_succ]
             refine held_take (i := 4) (d := 93) (v := ?_) rfl (by kernel_rfl) (by kernel_rfl) (by kernel_rfl) rfl (fun _ _ _ h => h) rfl hH (fun w' hS => ?_) ?_
             rotate_left
             ·go_simp; first | done | with_reducible rfl
             simp only [List.set_cons_zero, List.set_cons_succ]
             refine held_take (i := 5) (d := 94) (v := ?_) rfl (by kernel_rfl) (by kernel_rfl) (by kernel_rfl) rfl (fun _ _ _ h => h) rfl hH (fun w' hS => ?_) ?_
             rotate_left
             ·go_simp; first | done | with_reducible rfl
             simp only [List.set_cons_zero, List.set_cons_succ]
             refine held_take (i := 6) (d := 4) (v := ?_) rfl (by kernel_rfl) (by kernel_rfl) (by kernel_rfl) rfl (fun _ _ _ h => h) rfl hH (fun w' hS => ?_) ?_
             rotate_left
             ·go_simp; first | done | with_reducible rfl
             simp only [List.set_cons_zero, List.set_cons_succ]
             refine held_take (i := 7) (d := 5) (v := ?_) rfl (by kernel_rfl) (by kernel_rfl) (by kernel_rfl) rfl (fun _ _ _ h => h) rfl hH (fun w' hS => ?_) ?_
             rotate_left
             ·go_simp; first | done | with_reducible rfl
             simp only [List.set_cons_zero, List.set_cons_succ]
             refine wpAnyH_done (by kernel_rfl) ?_ _
             go_wp2_with fail
             go_meet
             case rel => exact ⟨rfl, congrArg Value.bool (em_eq h.op), Lib.hid hH⟩
           case rest =>
            obtain ⟨rfl, rfl, BW⟩ := hcut
            have Bx := Lib.hid (bnext B4.out BW.out)
            go_wp2_with fail
            go_ret2
            exact no_of (by unfold arN rnoR; simp [hk9.out, hr.out]) Bx.out
          ·have q9 := in_ne hk9
           replace hk9 := Lib.hid hk9
           go_wp2_with fail
           go_ret2
           exact no_of (by unfold arN rnoR; simp [hk1.out, hk2.out, hk3.out, hk4.out, hk5.out, hk6.out, hk7.out, hk8.out, hk9.out]) B4.out
end Go.Proofs.YtbahfelnbofjjaaGreatDoor.ch
namespace Go.Proofs.YtbahfelnbofjjaaGreatDoor.ch
open Go.RowKit dec
theorem rnam_is (h : Hd) : rnam h = namH h := by
 unfold rnam namH
 rw [fl_k (h := h) (g := nmG h) rfl]
 rfl
theorem ropr_is (h : Hd) : ropr h = same h { h0 with op := h.op } := by
 unfold ropr
 rw [fl_k (h := h) (g := opG h) rfl]
 rfl
theorem una_is (op : ByteArray) : (unaL.any fun t => decide (t = op)) = unaO op := by
 unfold unaL unaO
 simp only [List.any_cons, List.any_nil, Bool.or_false, eq_comm (b := op)]
theorem bin_is (op : ByteArray) : (opsL.any fun t => decide (t = op)) = binO op := by
 unfold opsL binO
 simp only [List.any_cons, List.any_nil, Bool.or_false, eq_comm (b := op)]
theorem par_is (op : ByteArray) (p : Int) : ((aggL.any fun t => decide (t = op)) && (decide (p ≤ topR op) && decide (min (topR op) 1 ≤ p))) = parH op p := by
 by_cases h1 : op = ⟨#[113, 117, 97, 110, 116, 105, 108, 101]⟩
 ·subst h1
  rw [show topR ⟨#[113, 117, 97, 110, 116, 105, 108, 101]⟩ = 1000 from by decide, show (aggL.any fun t => decide (t = (⟨#[113, 117, 97, 110, 116, 105, 108, 101]⟩ : ByteArray))) = true from by decide, show parH ⟨#[113, 117, 97, 110, 116, 105, 108, 101]⟩ p = (decide (1 ≤ p) && decide (p ≤ 1000)) from rfl]
  show (true && (decide (p ≤ 1000) && decide (1 ≤ p))) = _
  rw [Bool.true_and, Bool.and_comm]
 ·by_cases h2 : op = ⟨#[100, 101, 99, 97, 121]⟩
  ·subst h2
   rw [show topR ⟨#[100, 101, 99, 97, 121]⟩ = 1073741824 from by decide, show (aggL.any fun t => decide (t = (⟨#[100, 101, 99, 97, 121]⟩ : ByteArray))) = true from by decide, show parH ⟨#[100, 101, 99, 97, 121]⟩ p = (decide (1 ≤ p) && decide (p ≤ 1073741824)) from rfl]
   show (true && (decide (p ≤ 1073741824) && decide (1 ≤ p))) = _
   rw [Bool.true_and, Bool.and_comm]
  ·have ht : topR op = 0 := by unfold topR; rw [if_neg h2, if_neg h1]
   rw [ht]
   have e : (decide (p ≤ 0) && decide (min (0 : Int) 1 ≤ p)) = decide (p = 0) := by
    rw [show min (0 : Int) 1 = 0 from rfl, ← Bool.decide_and]
    exact decide_eq_decide.2 ⟨fun h => by omega, fun h => by omega⟩
   rw [e]
   unfold parH
   by_cases h3 : op = ⟨#[99, 111, 117, 110, 116]⟩ ∨ op = ⟨#[115, 117, 109]⟩ ∨ op = ⟨#[109, 101, 97, 110]⟩ ∨ op = ⟨#[109, 105, 110]⟩ ∨ op = ⟨#[109, 97, 120]⟩ ∨ op = ⟨#[102, 105, 114, 115, 116]⟩ ∨ op = ⟨#[108, 97, 115, 116]⟩ ∨ op = ⟨#[100, 105, 115, 116, 105, 110, 99, 116]⟩
   ·rw [if_pos h3]
    have : (aggL.any fun t => decide (t = op)) = true := by
     rcases h3 with h | h | h | h | h | h | h | h <;> subst h <;> decide
    rw [this, Bool.true_and]
   ·rw [if_neg h3, if_neg h1, if_neg h2]
    have : (aggL.any fun t => decide (t = op)) = false := by
     rw [List.any_eq_false]
     intro t hm h4
     have h5 := of_decide_eq_true h4
     subst h5
     unfold aggL at hm
     simp only [List.mem_cons, List.not_mem_nil, or_false] at hm
     have h3 := not_or.1 h3
     have h6 := not_or.1 h3.2
     have h7 := not_or.1 h6.2
     have h8 := not_or.1 h7.2
     have h9 := not_or.1 h8.2
     have ha := not_or.1 h9.2
     have hb := not_or.1 ha.2
     rcases hm with h | h | h | h | h | h | h | h | h | h
     ·exact h3.1 h
     ·exact h6.1 h
     ·exact h7.1 h
     ·exact h8.1 h
     ·exact h9.1 h
     ·exact ha.1 h
     ·exact hb.1 h
     ·exact hb.2 h
     ·exact h1 h
     ·exact h2 h
    rw [this, Bool.false_and]
theorem rag_is {h : Hd} (e : h.k = 5) : ragR h = aggH h := by
 unfold ragR ragG aggH
 rw [fl_k (g := agwH h) e, ← par_is]
 show _ = (name h.tb && _)
 generalize (aggL.any fun t => decide (t = h.op)) = a
 generalize name h.tb = b
 generalize winH h.wk h.ws = c
 generalize decide (h.pa ≤ topR h.op) = d
 generalize decide (min (topR h.op) 1 ≤ h.pa) = f
 show ((a && (b && (c && (d && f)))) && same h { h0 with op := h.op, tb := h.tb, pa := h.pa, wk := h.wk, ws := h.ws }) = _
 generalize same h { h0 with op := h.op, tb := h.tb, pa := h.pa, wk := h.wk, ws := h.ws } = s
 cases a <;> cases b <;> cases c <;> cases d <;> cases f <;> rfl
def cntR (h : Hd) (b : Bool) : Bool := !decide (h.k = 5) || (!decide (h.op = ⟨#[99, 111, 117, 110, 116]⟩) || b)
theorem emp_is (h : Hd) : (ropr h && decide (h.op = .empty)) = same h h0 := by
 rw [ropr_is]
 unfold same
 show ((decide (h.op = h.op) && _) && decide (h.op = .empty)) = (decide (h.op = .empty) && _)
 rw [decide_eq_true rfl, Bool.true_and, Bool.and_comm]
theorem nod_is (i : Bool) (h : Hd) (n : Nat) (g : Hd) : (rnoR i h && (decide ((n : Int) = arN h.k) && cntR h (truH g))) = nodE i h n g := by
 have d0 : decide ((n : Int) = 0) = decide (n = 0) := decide_eq_decide.2 (by omega)
 have d1 : decide ((n : Int) = 1) = decide (n = 1) := decide_eq_decide.2 (by omega)
 have d2 : decide ((n : Int) = 2) = decide (n = 2) := decide_eq_decide.2 (by omega)
 have d3 : decide ((n : Int) = 3) = decide (n = 3) := decide_eq_decide.2 (by omega)
 have hc : h.k ≠ 5 → cntR h (truH g) = true := fun e => by unfold cntR; rw [decide_eq_false e]; rfl
 unfold nodE rnoR arN
 by_cases k1 : h.k = 1
 ·rw [if_pos k1, if_pos k1, hc (by omega), rli_is k1, if_neg (by omega), if_neg (by omega), if_neg (by omega), if_neg (by omega), if_neg (by omega), if_neg (by omega), d0, Bool.and_true]
 rw [if_neg k1, if_neg k1]
 by_cases k2 : h.k = 2
 ·rw [if_pos k2, if_pos k2, hc (by omega), rnam_is, if_neg (by omega), if_neg (by omega), if_neg (by omega), if_neg (by omega), if_neg (by omega), if_neg (by omega), d0, Bool.and_true, Bool.and_assoc]
 rw [if_neg k2, if_neg k2]
 by_cases k3 : h.k = 3
 ·rw [if_pos k3, if_pos k3, hc (by omega), rnam_is, if_neg (by omega), if_neg (by omega), if_neg (by omega), if_neg (by omega), if_neg (by omega), if_neg (by omega), d0, Bool.and_true, Bool.and_assoc]
 rw [if_neg k3, if_neg k3]
 by_cases k4 : h.k = 4
 ·rw [if_pos k4, if_pos k4, hc (by omega), rnam_is, if_pos k4, d1, Bool.and_true, Bool.and_assoc]
 rw [if_neg k4, if_neg k4, if_neg k4]
 by_cases k5 : h.k = 5
 ·rw [if_pos k5, if_pos k5, if_pos k5, rag_is k5, d2]
  unfold cntR
  rw [decide_eq_true k5, Bool.and_assoc]
  rfl
 rw [if_neg k5, if_neg k5, if_neg k5, hc k5]
 by_cases k6 : h.k = 6
 ·rw [if_pos k6, if_pos k6, if_pos k6, una_is, ropr_is, d1, Bool.and_true]
  generalize unaO h.op = a
  generalize same h { h0 with op := h.op } = b
  cases a <;> cases b <;> rfl
 rw [if_neg k6, if_neg k6, if_neg k6]
 by_cases k7 : h.k = 7
 ·rw [if_pos k7, if_pos k7, if_pos k7, bin_is, ropr_is, d2, Bool.and_true]
  generalize binO h.op = a
  generalize same h { h0 with op := h.op } = b
  cases a <;> cases b <;> rfl
 rw [if_neg k7, if_neg k7, if_neg k7]
 by_cases k8 : h.k = 8
 ·rw [if_pos k8, if_pos k8, if_pos k8, emp_is, d3, Bool.and_true]
 rw [if_neg k8, if_neg k8, if_neg k8]
 by_cases k9 : h.k = 9
 ·rw [if_pos k9, if_pos k9, if_pos k9, emp_is, d2, Bool.and_true]
 rw [if_neg k9, if_neg k9, if_neg k9]
 rfl
theorem tru_is {i : Bool} {g k : Hd} {n : Nat} (hf : nodE i g n k = true) : rsxR g n = truH g := by
 unfold rsxR flR truH
 by_cases hk : g.k = 1
 ·unfold nodE at hf
  rw [if_pos hk] at hf
  simp only [litH, Bool.and_eq_true, decide_eq_true_eq, same] at hf
  obtain ⟨⟨_, _, ht, ho, _, htb, _, _, hpa, hwk, hws⟩, rfl⟩ := hf
  rw [show decide (g.k = truX.h.k) = true from decide_eq_true hk, decide_eq_true hk, Bool.true_and, Bool.true_and, decide_eq_true rfl, Bool.and_true]
  unfold same
  by_cases hv : g.vk = 1
  ·have hnm : g.nm = .empty := by
    unfold tyE at ht
    dsimp only at ht
    by_cases e : g.nm = .empty
    ·exact e
    ·rw [if_neg (by omega), if_neg (by omega), if_pos ⟨by omega, e⟩] at ht
     cases ht
   have hun : g.un = [] := by
    unfold tyE num at ht
    dsimp only at ht
    by_cases e : g.un = []
    ·exact e
    ·have : 0 < g.un.length := List.length_pos_iff.2 e
     rw [if_neg (by omega), if_neg (by omega), if_neg (by rintro ⟨_, h⟩; exact h hnm), if_pos ⟨by rw [hv]; rfl, this⟩] at ht
     cases ht
   rw [ho, hnm, htb, hun, hpa, hwk, hws]
   show (true && (true && (true && ((decide (g.vk = 1) && (decide (g.vn = 1) && decide (g.vs = .empty))) && (true && (true && (true && true))))))) = _
   simp only [Bool.true_and, Bool.and_true]
  ·rw [show decide (g.vk = truX.h.vk) = false from decide_eq_false hv, decide_eq_false hv]
   simp only [Bool.false_and, Bool.and_false]
 ·rw [show decide (g.k = truX.h.k) = false from decide_eq_false hk, decide_eq_false hk]
  rfl
end Go.Proofs.YtbahfelnbofjjaaGreatDoor.ch

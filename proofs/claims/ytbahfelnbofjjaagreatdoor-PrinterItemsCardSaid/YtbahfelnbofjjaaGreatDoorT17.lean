/-
  The reference's flat, One and lists of words; The reference's SameExpr against True; The reference's texts of operations.
-/
import Derived.Test.YtbahfelnbofjjaaGreatDoorT08
import Derived.Test.YtbahfelnbofjjaaGreatDoorT14
import Derived.Test.YtbahfelnbofjjaaGreatDoorT16
set_option maxRecDepth 100000
set_option maxHeartbeats 16000000
namespace Go.Proofs.YtbahfelnbofjjaaGreatDoor.ch
open Go.RowKit dec
def flR (h g : Hd) : Bool := decide (h.k = g.k) && same h g
theorem flat_any (h g : Hd) (n m : Nat) (ua ub aa ab : Option Addr) (uc ud ac ad : Nat) (w : World) (hU : un.Sl w ua h.un.length uc h.un) (hV : un.Sl w ub g.un.length ud g.un) :
  Calls Tryz.prog 70 #[.agg (exC h n ua uc aa ac), .agg (exC g m ub ud ab ad)] w (Bl (flR h g) w) := by
 have bb := below_two w (.cells (exC h n ua uc aa ac) 29) (.cells (exC g m ub ud ab ad) 29)
 have B0 := Lib.hid bb
 have GG := bw_two w (exC h n ua uc aa ac) (exC g m ub ud ab ad) 29 29
 have G1 := Lib.hid GG.1
 have G2 := Lib.hid GG.2
 have CS := Lib.hid (un.rsame_any _ _ _ _ _ _ _ _ _ (hU.keeps bb) (hV.keeps bb))
 have hE : flR h g = flR h g := rfl
 conv at hE => rhs; unfold flR same
 replace hE := Lib.hid hE
 clear hU hV bb GG
 unfold exC at *
 by_cases hk : h.k = g.k
 ·have qn := in_is hk
  replace hE := hE.out
  simp only [decide_eq_true hk, Bool.true_and] at hE
  replace hE := Lib.hid hE
  clear hk
  by_cases e0 : h.op = g.op
  ·have qhop := bs_is e0
   replace hE := hE.out
   simp only [decide_eq_true e0, Bool.true_and] at hE
   replace hE := Lib.hid hE
   clear e0
   by_cases e1 : h.nm = g.nm
   ·have qhnm := bs_is e1
    replace hE := hE.out
    simp only [decide_eq_true e1, Bool.true_and] at hE
    replace hE := Lib.hid hE
    clear e1
    by_cases e2 : h.tb = g.tb
    ·have qhtb := bs_is e2
     replace hE := hE.out
     simp only [decide_eq_true e2, Bool.true_and] at hE
     replace hE := Lib.hid hE
     clear e2
     by_cases e3 : h.vk = g.vk
     ·have qhvk := in_is e3
      replace hE := hE.out
      simp only [decide_eq_true e3, Bool.true_and] at hE
      replace hE := Lib.hid hE
      clear e3
      by_cases e4 : h.vn = g.vn
      ·have qhvn := in_is e4
       replace hE := hE.out
       simp only [decide_eq_true e4, Bool.true_and] at hE
       replace hE := Lib.hid hE
       clear e4
       by_cases e5 : h.vs = g.vs
       ·have qhvs := bs_is e5
        replace hE := hE.out
        simp only [decide_eq_true e5, Bool.true_and] at hE
        replace hE := Lib.hid hE
        clear e5
        go_enter Tryz.func70, Tryz.ntmps70
        go_wp2_with fail
        refine (CS.out).mono ?_
        rintro e w1 ⟨rfl, b1⟩
        have B1 := Lib.hid (bnext B0.out b1)
        replace G1 := Lib.hid (G1.out.keeps b1)
        replace G2 := Lib.hid (G2.out.keeps b1)
        have c8 := G1.out.cell 8
        have c9 := G1.out.cell 9
        have c10 := G1.out.cell 10
        simp only [List.getElem?_toArray, List.getElem?_cons_zero, List.getElem?_cons_succ] at c8 c9 c10
        have d8 := G2.out.cell 8
        have d9 := G2.out.cell 9
        have d10 := G2.out.cell 10
        simp only [List.getElem?_toArray, List.getElem?_cons_zero, List.getElem?_cons_succ] at d8 d9 d10
        clear b1 CS
        have hu : decide (h.un = g.un) = un.sameB h.un g.un := rfl
        replace hE := hE.out
        rw [hu] at hE
        replace hE := Lib.hid hE
        clear hu
        generalize un.sameB h.un g.un = u at *
        cases u
        ·replace hE := hE.out
         simp only [Bool.false_and] at hE
         replace hE := Lib.hid hE
         go_wp2_with fail
         go_ret
         exact bl_of (by rw [hE.out]) B1.out
        ·replace hE := hE.out
         simp only [Bool.true_and] at hE
         replace hE := Lib.hid hE
         by_cases e0 : h.pa = g.pa
         ·have qhpa := in_is e0
          replace hE := hE.out
          simp only [decide_eq_true e0, Bool.true_and] at hE
          replace hE := Lib.hid hE
          clear e0
          by_cases e1 : h.wk = g.wk
          ·have qhwk := in_is e1
           replace hE := hE.out
           simp only [decide_eq_true e1, Bool.true_and] at hE
           replace hE := Lib.hid hE
           clear e1
           by_cases e2 : h.ws = g.ws
           ·have qhws := in_is e2
            replace hE := hE.out
            simp only [decide_eq_true e2] at hE
            replace hE := Lib.hid hE
            clear e2
            go_wp2_with fail
            go_ret
            exact bl_of (by rw [hE.out]) B1.out
           ·have qhws := in_ne e2
            replace hE := hE.out
            simp only [decide_eq_false e2] at hE
            replace hE := Lib.hid hE
            clear e2
            go_wp2_with fail
            go_ret
            exact bl_of (by rw [hE.out]) B1.out
          ·have qhwk := in_ne e1
           replace hE := hE.out
           simp only [decide_eq_false e1, Bool.false_and] at hE
           replace hE := Lib.hid hE
           clear e1
           go_wp2_with fail
           go_ret
           exact bl_of (by rw [hE.out]) B1.out
         ·have qhpa := in_ne e0
          replace hE := hE.out
          simp only [decide_eq_false e0, Bool.false_and] at hE
          replace hE := Lib.hid hE
          clear e0
          go_wp2_with fail
          go_ret
          exact bl_of (by rw [hE.out]) B1.out
       ·have qhvs := bs_ne e5
        replace hE := hE.out
        simp only [decide_eq_false e5, Bool.false_and] at hE
        replace hE := Lib.hid hE
        clear e5
        go_enter Tryz.func70, Tryz.ntmps70
        go_wp2_with fail
        go_ret
        exact bl_of (by rw [hE.out]) B0.out
      ·have qhvn := in_ne e4
       replace hE := hE.out
       simp only [decide_eq_false e4, Bool.false_and] at hE
       replace hE := Lib.hid hE
       clear e4
       go_enter Tryz.func70, Tryz.ntmps70
       go_wp2_with fail
       go_ret
       exact bl_of (by rw [hE.out]) B0.out
     ·have qhvk := in_ne e3
      replace hE := hE.out
      simp only [decide_eq_false e3, Bool.false_and] at hE
      replace hE := Lib.hid hE
      clear e3
      go_enter Tryz.func70, Tryz.ntmps70
      go_wp2_with fail
      go_ret
      exact bl_of (by rw [hE.out]) B0.out
    ·have qhtb := bs_ne e2
     replace hE := hE.out
     simp only [decide_eq_false e2, Bool.false_and] at hE
     replace hE := Lib.hid hE
     clear e2
     go_enter Tryz.func70, Tryz.ntmps70
     go_wp2_with fail
     go_ret
     exact bl_of (by rw [hE.out]) B0.out
   ·have qhnm := bs_ne e1
    replace hE := hE.out
    simp only [decide_eq_false e1, Bool.false_and] at hE
    replace hE := Lib.hid hE
    clear e1
    go_enter Tryz.func70, Tryz.ntmps70
    go_wp2_with fail
    go_ret
    exact bl_of (by rw [hE.out]) B0.out
  ·have qhop := bs_ne e0
   replace hE := hE.out
   simp only [decide_eq_false e0, Bool.false_and] at hE
   replace hE := Lib.hid hE
   clear e0
   go_enter Tryz.func70, Tryz.ntmps70
   go_wp2_with fail
   go_ret
   exact bl_of (by rw [hE.out]) B0.out
 ·have qn := in_ne hk
  replace hE := hE.out
  simp only [decide_eq_false hk, Bool.false_and] at hE
  replace hE := Lib.hid hE
  clear hk
  go_enter Tryz.func70, Tryz.ntmps70
  go_wp2_with fail
  go_ret
  exact bl_of (by rw [hE.out]) B0.out
def SsV (w : World) (a : Option Addr) (l : List ByteArray) : Prop := l.length = 0 ∨ ∃ b off, a = some ⟨b, off, none⟩ ∧ ∀ j (h : j < l.length), w.cell? ⟨b, off + j, none⟩ = some (.string l[j])
theorem SsV.keeps {w w' : World} {a : Option Addr} {l : List ByteArray} (h : SsV w a l) (hb : Below w.heap.size w w') : SsV w' a l := h.imp id fun ⟨b, off, e, hA⟩ => ⟨b, off, e, fun j hj => dec.keeps hb (hA j hj)⟩
theorem ss_blk {w : World} {g : Nat} {T : TypeId} {l : List ByteArray} (h : Blk w g T (l.map Value.string).toArray) : SsV w (some ⟨g, 0, none⟩) l := .inr ⟨g, 0, rfl, fun j hj => by
 rw [Nat.zero_add, h.cell]
 simp [hj]⟩
theorem any_step (s : ByteArray) {l : List ByteArray} {j : Nat} (h : j < l.length) : (l.drop j).any (fun t => decide (t = s)) = (decide (l[j] = s) || (l.drop (j + 1)).any fun t => decide (t = s)) := by
 rw [List.drop_eq_getElem_cons h, List.any_cons]
theorem one_any (s : ByteArray) (a : Option Addr) (c : Nat) (l : List ByteArray) (hl : l.length ≤ 1000) (w : World) (hA : SsV w a l) : Calls Tryz.prog 146 #[.string s, .slice a l.length c] w fun e w' => e = .returned (.bool (l.any fun t => decide (t = s))) ∧ w = w' := by
 have HA := Lib.hid hA
 have hE := Lib.hid (show l.any (fun t => decide (t = s)) = (l.drop 0).any fun t => decide (t = s) by rw [List.drop_zero])
 clear hA
 generalize l.any (fun t => decide (t = s)) = V at *
 go_enter Tryz.func146, Tryz.ntmps146
 go_wp2_with fail
 go_loopw [5] (fun x wr => ∃ j : Nat, x = .int .i64 (j : Nat) ∧ Hid (j ≤ l.length) ∧ Hid (V = (l.drop j).any fun t => decide (t = s)) ∧ wr = w) (fun x _ => l.length - (intOf x).toNat)
 case atStart => exact ⟨0, rfl, Lib.hid (Nat.zero_le _), hE, rfl⟩
 case round =>
  clear hE
  obtain ⟨j, rfl, hj, hE, rfl⟩ := hrel
  by_cases hlt : j < l.length
  ·have q1 : decide ((j : Int) < (l.length : Int)) = true := decide_eq_true (by omega)
   have i1 : (j : Int) < (l.length : Int) := by omega
   have f4 := Lib.hid (next_at (j := j) (by omega))
   obtain ⟨b, off, rfl, hc⟩ := HA.out.resolve_left (by omega)
   have c1 := hc j hlt
   replace hE := Lib.hid (hE.out.trans (any_step s hlt))
   clear hc HA hj
   generalize hx : l[j] = x at *
   by_cases he : x = s
   ·have q2 := bs_is he
    replace hE := Lib.hid (hE.out.trans (by rw [decide_eq_true he, Bool.true_or] : _ = true))
    clear he
    go_wp2_with fail
    go_ret
    exact ⟨congrArg (fun b => Ending.returned (Value.bool b)) hE.out.symm, rfl⟩
   ·have q2 := bs_ne he
    replace hE := Lib.hid (hE.out.trans (by rw [decide_eq_false he, Bool.false_or]))
    clear he
    go_wp2_with fail
    exact ⟨⟨j + 1, rfl, Lib.hid hlt, hE, trivial⟩, less_at hlt rfl⟩
  ·have q1 : decide ((j : Int) < (l.length : Int)) = false := decide_eq_false (by omega)
   replace hE := Lib.hid (hE.out.trans (by rw [List.drop_eq_nil_of_le (by omega)]; rfl : _ = false))
   go_wp2_with fail
   go_ret
   exact ⟨congrArg (fun b => Ending.returned (Value.bool b)) hE.out.symm, rfl⟩
def opsL : List ByteArray := [⟨#[43]⟩, ⟨#[45]⟩, ⟨#[42]⟩, ⟨#[47]⟩, ⟨#[61, 61]⟩, ⟨#[33, 61]⟩, ⟨#[60]⟩, ⟨#[60, 61]⟩, ⟨#[97, 110, 100]⟩, ⟨#[111, 114]⟩]
def aggL : List ByteArray := [⟨#[99, 111, 117, 110, 116]⟩, ⟨#[115, 117, 109]⟩, ⟨#[109, 101, 97, 110]⟩, ⟨#[109, 105, 110]⟩, ⟨#[109, 97, 120]⟩, ⟨#[102, 105, 114, 115, 116]⟩, ⟨#[108, 97, 115, 116]⟩, ⟨#[100, 105, 115, 116, 105, 110, 99, 116]⟩, ⟨#[113, 117, 97, 110, 116, 105, 108, 101]⟩, ⟨#[100, 101, 99, 97, 121]⟩]
theorem operators_any (w : World) : Calls Tryz.prog 172 #[] w fun e w' => ∃ a, e = .returned (.slice a 10 10) ∧ SsV w' a opsL ∧ Below w.heap.size w w' := by
 go_enter Tryz.func172, Tryz.ntmps172
 go_wp2_with fail
 go_ret
 exact ⟨_, rfl, ss_blk (l := opsL) (Blk.new _ _ _), balloc (b0 w) _⟩
theorem aggregates_r (w : World) : Calls Tryz.prog 147 #[] w fun e w' => ∃ a, e = .returned (.slice a 10 10) ∧ SsV w' a aggL ∧ Below w.heap.size w w' := by
 go_enter Tryz.func147, Tryz.ntmps147
 go_wp2_with fail
 go_ret
 exact ⟨_, rfl, ss_blk (l := aggL) (Blk.new _ _ _), balloc (b0 w) _⟩
theorem window_any (k n : Int) (w : World) : Calls Tryz.prog 239 #[.agg #[.int .i64 k, .int .i64 n]] w (Bl (winH k n) w) := by
 go_enter Tryz.func239, Tryz.ntmps239
 go_wp2_with fail
 all_goals first
  | (exfalso; simp_all; done)
  | (go_ret; refine bl_of ?_ (balloc (b0 w) _); simp only [eqI] at *; unfold winH; simp_all; done)
  | (go_ret; refine bl_of ?_ (balloc (b0 w) _); simp only [eqI] at *; unfold winH; simp_all; omega)
end Go.Proofs.YtbahfelnbofjjaaGreatDoor.ch
namespace Go.Proofs.YtbahfelnbofjjaaGreatDoor.ch
open Go.RowKit dec
theorem true_e (w : World) : Calls Tryz.prog 48 #[] w fun e w' => e = .returned (.agg (exC truX.h 0 none 0 none 0)) ∧ Below w.heap.size w w' := by
 go_enter Tryz.func48, Tryz.ntmps48
 go_wp2_with fail
 exact ret_X Tryz.results48 _ _ _ _ (exC truX.h 0 none 0 none 0) rfl (Blk.new _ _ _) rfl ⟨rfl, balloc (b0 w) _⟩
def rsxR (h : Hd) (n : Nat) : Bool := flR h truX.h && decide (n = 0)
theorem sameTrue_any (h : Hd) (n : Nat) (ua aa : Option Addr) (uc ac : Nat) (w : World) (hU : un.Sl w ua h.un.length uc h.un) : Calls Tryz.prog 28 #[.agg (exC h n ua uc aa ac), .agg (exC truX.h 0 none 0 none 0)] w (Bl (rsxR h n) w) := by
 have bb := below_two w (.cells (exC h n ua uc aa ac) 29) (.cells (exC truX.h 0 none 0 none 0) 29)
 have B0 := Lib.hid bb
 have GG := bw_two w (exC h n ua uc aa ac) (exC truX.h 0 none 0 none 0) 29 29
 have G := Lib.hid GG.1
 have H := Lib.hid GG.2
 have S0 := Lib.hid (hU.keeps bb)
 have CF := Lib.hid (fun (W : World) (S : un.Sl W ua h.un.length uc h.un) => (show Calls Tryz.prog 70 #[.agg #[.int .i64 h.k, .string h.op, .string h.nm, .string h.tb, .int .i64 h.vk, .int .i64 h.vn, .string h.vs, .slice ua h.un.length uc, .int .i64 h.pa, .int .i64 h.wk, .int .i64 h.ws, .slice aa n ac], .agg (exC truX.h 0 none 0 none 0)] W (Bl (flR h truX.h) W) from flat_any h truX.h n 0 ua none aa none uc 0 ac 0 W S (un.Sl.nil W)))
 have hE : rsxR h n = (flR h truX.h && decide (n = 0)) := rfl
 replace hE := Lib.hid hE
 clear hU bb GG
 generalize flR h truX.h = R at *
 generalize ht : (exC truX.h 0 none 0 none 0) = tv at *
 have e11 := Lib.hid (show tv[11]? = some (.slice none 0 0) from by rw [← ht]; rfl)
 have esz := Lib.hid (show tv.size = 12 from by rw [← ht]; rfl)
 clear ht
 unfold exC at *
 go_enter Tryz.func28, Tryz.ntmps28
 go_upto_region 1 with fail
 generalize hw0 : ((w.alloc (.cells #[.int .i64 h.k, .string h.op, .string h.nm, .string h.tb, .int .i64 h.vk, .int .i64 h.vn, .string h.vs, .slice ua h.un.length uc, .int .i64 h.pa, .int .i64 h.wk, .int .i64 h.ws, .slice aa n ac] 29)).alloc (.cells tv 29)) = w0 at *
 clear hw0
 generalize hg3 : w.heap.size + 1 = g3 at H ⊢
 generalize hg2 : w.heap.size = g2 at G ⊢
 clear hg2 hg3
 go_wp2_with (first | (refine arm_loadT infX Tryz.underlying29 rfl (.tmp 2) rfl rfl _ _ _ rfl G.out rfl ?_) | (refine arm_loadT infX Tryz.underlying29 rfl (.tmp 3) rfl rfl _ _ _ rfl H.out esz.out ?_))
 refine (CF.out _ S0.out).mono ?_
 rintro e w1 ⟨rfl, b1⟩
 have B1 := Lib.hid (bnext B0.out b1)
 replace G := Lib.hid (G.out.keeps b1)
 replace H := Lib.hid (H.out.keeps b1)
 replace S0 := Lib.hid (S0.out.keeps b1)
 clear b1
 have c11 := G.out.cell 11
 have m11 := H.out.cell 11
 rw [e11.out] at m11
 simp only [List.getElem?_toArray, List.getElem?_cons_zero, List.getElem?_cons_succ] at c11
 clear CF
 cases R
 ·go_wp2_with fail
  go_ret
  exact bl_of (by rw [hE.out]; rfl) B1.out
 ·by_cases hn : n = 0
  ·have q := in_is (show (n : Int) = 0 by omega)
   have q2 : ((n : Int) != 0) = false := by subst hn; rfl
   subst hn
   go_wp2_with fail
   go_loopw [5] (fun vi wr => vi = .int .i64 0 ∧ wr = w1) (fun _ _ => 0)
   case atStart => exact ⟨rfl, rfl⟩
   case round =>
    obtain ⟨rfl, rfl⟩ := hrel
    go_wp2_with fail
    go_ret
    exact bl_of (by rw [hE.out]; rfl) B1.out
  ·have q2 : ((n : Int) != 0) = true := by simp [hn]
   have q3 := decide_eq_false hn
   replace hn := Lib.hid hn
   go_wp2_with fail
   go_ret
   exact bl_of (by rw [hE.out, q3]; rfl) B1.out
end Go.Proofs.YtbahfelnbofjjaaGreatDoor.ch
namespace Go.Proofs.YtbahfelnbofjjaaGreatDoor.ch
open Go.RowKit dec
theorem rat_any (h : Hd) (n : Nat) (ua aa : Option Addr) (uc ac : Nat) (w : World) (q r : Int) (t : List UInt8) (ht : t.length ≤ 1000000) (hT : ∀ W, Below w.heap.size w W → Calls Tryz.prog 52 #[.agg (exC h n ua uc aa ac)] W (Sr (B8 t) W)) (hR : ∀ W, Below w.heap.size w W → Calls Tryz.prog 162 #[.agg (exC h n ua uc aa ac)] W (Num r W)) : Calls Tryz.prog 112 #[.agg (exC h n ua uc aa ac), .int .i64 q] w (Sr (B8 (par r q t)) w) := by
 have bb := balloc (b0 w) (.cells (exC h n ua uc aa ac) 29)
 have B0 := Lib.hid bb
 have G := Lib.hid (Blk.new w 29 (exC h n ua uc aa ac))
 clear bb
 have CT := Lib.hid hT
 have CR := Lib.hid hR
 have hP := Lib.hid (show par r q t = if r < q then 40 :: (t ++ [41]) else t from rfl)
 clear hT hR
 have A1 := add_b8 ([40]) (t) (by first | omega | (simp only [List.length_append]; omega) | (simp only [List.length_cons, List.length_nil]; omega) | (simp only [List.length_cons, List.length_append, List.length_nil]; omega) | decide) (by first | omega | (simp only [List.length_append]; omega) | (simp only [List.length_cons, List.length_nil]; omega) | (simp only [List.length_cons, List.length_append, List.length_nil]; omega) | decide)
 replace A1 : ∀ W, (Op.stringOp .add ⟨#[40]⟩ (B8 t)).run Tryz.prog W = .ok (.string (B8 ([40] ++ t))) W := A1
 have A2 := add_b8 (([40] ++ t)) ([41]) (by first | omega | (simp only [List.length_append]; omega) | (simp only [List.length_cons, List.length_nil]; omega) | (simp only [List.length_cons, List.length_append, List.length_nil]; omega) | decide) (by first | omega | (simp only [List.length_append]; omega) | (simp only [List.length_cons, List.length_nil]; omega) | (simp only [List.length_cons, List.length_append, List.length_nil]; omega) | decide)
 replace A2 : ∀ W, (Op.stringOp .add (B8 ([40] ++ t)) ⟨#[41]⟩).run Tryz.prog W = .ok (.string (B8 (([40] ++ t) ++ [41]))) W := A2
 clear ht
 unfold exC at *
 go_enter Tryz.func112, Tryz.ntmps112
 go_upto_region 1 with fail
 generalize hw0 : (w.alloc (.cells #[.int .i64 h.k, .string h.op, .string h.nm, .string h.tb, .int .i64 h.vk, .int .i64 h.vn, .string h.vs, .slice ua h.un.length uc, .int .i64 h.pa, .int .i64 h.wk, .int .i64 h.ws, .slice aa n ac] 29)) = w0 at *
 generalize hg2 : w.heap.size = g2 at G ⊢
 clear hw0 hg2
 go_wp2_with (refine arm_loadT infX Tryz.underlying29 rfl (.tmp 2) rfl rfl _ _ _ rfl G.out rfl ?_)
 refine (CT.out _ B0.out).mono ?_
 rintro e w1 ⟨rfl, b1⟩
 have B1 := Lib.hid (bnext B0.out b1)
 replace G := Lib.hid (G.out.keeps b1)
 clear b1 CT
 go_wp2_with (refine arm_loadT infX Tryz.underlying29 rfl (.tmp 2) rfl rfl _ _ _ rfl G.out rfl ?_)
 refine (CR.out _ B1.out).mono ?_
 rintro e w2 ⟨rfl, b2⟩
 have B2 := Lib.hid (bnext B1.out b2)
 clear b2 CR
 by_cases hq : r < q
 ·have qq := decide_eq_true hq
  have hP2 := Lib.hid (show B8 (([40] ++ t) ++ [41]) = B8 (par r q t) by rw [hP.out, if_pos hq]; rfl)
  generalize B8 (([40] ++ t) ++ [41]) = s3 at *
  generalize B8 ([40] ++ t) = s2 at *
  generalize B8 t = s1 at *
  go_wp2_with fail
  go_ret
  exact sr_of hP2.out B2.out
 ·have qq := decide_eq_false hq
  have hP2 := Lib.hid (show B8 t = B8 (par r q t) by rw [hP.out, if_neg hq])
  clear A1 A2
  generalize B8 t = s1 at *
  go_wp2_with fail
  go_ret
  exact sr_of hP2.out B2.out
theorem runary_m (h : Hd) (ua : Option Addr) (bk off : Nat) (uc ac : Nat) (y : Ex) (va wa : Option Addr) (vc wc : Nat) (t : List UInt8) (r : Int) (w : World) (hop : h.op = ⟨#[45]⟩) (ht : t.length ≤ 1000000) (hR1 : w.rangeAt bk off (exC y.h y.ar.len va vc wa wc).toList) (hC : ∀ W, Below w.heap.size w W → Calls Tryz.prog 112 #[.agg (exC y.h y.ar.len va vc wa wc), .int .i64 8] W (Sr (B8 (par r 8 t)) W)) : Calls Tryz.prog 110 #[.agg (exC h 1 ua uc (some ⟨bk, off, none⟩) ac)] w (Sr (B8 ([45] ++ par r 8 t)) w) := by
 have bb := balloc (b0 w) (.cells (exC h 1 ua uc (some ⟨bk, off, none⟩) ac) 29)
 have B0 := Lib.hid bb
 have G := Lib.hid (Blk.new w 29 (exC h 1 ua uc (some ⟨bk, off, none⟩) ac))
 have R1 := Lib.hid (range_keeps hR1 bb)
 have HC := Lib.hid (fun (W : World) (b : Below w.heap.size w W) => hC W b)
 clear hC bb hR1
 have hpl := par_len r 8 t
 have A1 := add_b8 ([45]) ((par r 8 t)) (by first | omega | (simp only [List.length_append]; omega) | (simp only [List.length_cons, List.length_nil]; omega) | (simp only [List.length_cons, List.length_append, List.length_nil]; omega) | decide) (by first | omega | (simp only [List.length_append]; omega) | (simp only [List.length_cons, List.length_nil]; omega) | (simp only [List.length_cons, List.length_append, List.length_nil]; omega) | decide)
 replace A1 : ∀ W, (Op.stringOp .add ⟨#[45]⟩ (B8 (par r 8 t))).run Tryz.prog W = .ok (.string (B8 ([45] ++ (par r 8 t)))) W := A1
 clear ht hpl
 generalize B8 ([45] ++ (par r 8 t)) = s2 at *
 generalize B8 (par r 8 t) = s1 at *
 have e_m := eqL h.op [45]
 have d_m : (h.op.toList == [45]) = true := by rw [e_m, hop]; decide
 have e_n := eqL h.op [110, 111, 116]
 have d_n : (h.op.toList == [110, 111, 116]) = false := by rw [e_n, hop]; decide
 clear e_m e_n
 replace hop := Lib.hid hop
 unfold exC at *
 go_enter Tryz.func110, Tryz.ntmps110
 go_upto_region 1 with fail
 generalize hw0 : (w.alloc (.cells #[.int .i64 h.k, .string h.op, .string h.nm, .string h.tb, .int .i64 h.vk, .int .i64 h.vn, .string h.vs, .slice ua h.un.length uc, .int .i64 h.pa, .int .i64 h.wk, .int .i64 h.ws, .slice (some ⟨bk, off, none⟩) 1 ac] 29)) = w0 at *
 generalize hg2 : w.heap.size = g2 at G ⊢
 clear hw0 hg2
 have c1 := G.out.cell 1
 have c11 := G.out.cell 11
 simp only [List.getElem?_toArray, List.getElem?_cons_zero, List.getElem?_cons_succ] at c1 c11
 go_wp2_with (refine arm_mid infX Tryz.underlying29 rfl (.tmp 9) rfl rfl bk off (exC y.h y.ar.len va vc wa wc) rfl R1.out rfl ?_)
 refine (HC.out _ B0.out).mono ?_
 rintro e w1 ⟨rfl, b1⟩
 have B1 := Lib.hid (bnext B0.out b1)
 clear b1 HC
 go_wp2_with fail
 go_ret
 exact sr_of rfl B1.out
theorem runary_n (h : Hd) (ua : Option Addr) (bk off : Nat) (uc ac : Nat) (y : Ex) (va wa : Option Addr) (vc wc : Nat) (t : List UInt8) (r : Int) (w : World) (hop : h.op = ⟨#[110, 111, 116]⟩) (ht : t.length ≤ 1000000) (hR1 : w.rangeAt bk off (exC y.h y.ar.len va vc wa wc).toList) (hC : ∀ W, Below w.heap.size w W → Calls Tryz.prog 112 #[.agg (exC y.h y.ar.len va vc wa wc), .int .i64 4] W (Sr (B8 (par r 4 t)) W)) : Calls Tryz.prog 110 #[.agg (exC h 1 ua uc (some ⟨bk, off, none⟩) ac)] w (Sr (B8 ([110, 111, 116, 32] ++ par r 4 t)) w) := by
 have bb := balloc (b0 w) (.cells (exC h 1 ua uc (some ⟨bk, off, none⟩) ac) 29)
 have B0 := Lib.hid bb
 have G := Lib.hid (Blk.new w 29 (exC h 1 ua uc (some ⟨bk, off, none⟩) ac))
 have R1 := Lib.hid (range_keeps hR1 bb)
 have HC := Lib.hid (fun (W : World) (b : Below w.heap.size w W) => hC W b)
 clear hC bb hR1
 have hpl := par_len r 4 t
 have A1 := add_b8 ([110, 111, 116, 32]) ((par r 4 t)) (by first | omega | (simp only [List.length_append]; omega) | (simp only [List.length_cons, List.length_nil]; omega) | (simp only [List.length_cons, List.length_append, List.length_nil]; omega) | decide) (by first | omega | (simp only [List.length_append]; omega) | (simp only [List.length_cons, List.length_nil]; omega) | (simp only [List.length_cons, List.length_append, List.length_nil]; omega) | decide)
 replace A1 : ∀ W, (Op.stringOp .add ⟨#[110, 111, 116, 32]⟩ (B8 (par r 4 t))).run Tryz.prog W = .ok (.string (B8 ([110, 111, 116, 32] ++ (par r 4 t)))) W := A1
 clear ht hpl
 generalize B8 ([110, 111, 116, 32] ++ (par r 4 t)) = s2 at *
 generalize B8 (par r 4 t) = s1 at *
 have e_m := eqL h.op [45]
 have d_m : (h.op.toList == [45]) = false := by rw [e_m, hop]; decide
 have e_n := eqL h.op [110, 111, 116]
 have d_n : (h.op.toList == [110, 111, 116]) = true := by rw [e_n, hop]; decide
 clear e_m e_n
 replace hop := Lib.hid hop
 unfold exC at *
 go_enter Tryz.func110, Tryz.ntmps110
 go_upto_region 1 with fail
 generalize hw0 : (w.alloc (.cells #[.int .i64 h.k, .string h.op, .string h.nm, .string h.tb, .int .i64 h.vk, .int .i64 h.vn, .string h.vs, .slice ua h.un.length uc, .int .i64 h.pa, .int .i64 h.wk, .int .i64 h.ws, .slice (some ⟨bk, off, none⟩) 1 ac] 29)) = w0 at *
 generalize hg2 : w.heap.size = g2 at G ⊢
 clear hw0 hg2
 have c1 := G.out.cell 1
 have c11 := G.out.cell 11
 simp only [List.getElem?_toArray, List.getElem?_cons_zero, List.getElem?_cons_succ] at c1 c11
 go_wp2_with (refine arm_mid infX Tryz.underlying29 rfl (.tmp 17) rfl rfl bk off (exC y.h y.ar.len va vc wa wc) rfl R1.out rfl ?_)
 refine (HC.out _ B0.out).mono ?_
 rintro e w1 ⟨rfl, b1⟩
 have B1 := Lib.hid (bnext B0.out b1)
 clear b1 HC
 go_wp2_with fail
 go_ret
 exact sr_of rfl B1.out
theorem runary_z (h : Hd) (ua : Option Addr) (bk off : Nat) (uc ac : Nat) (y : Ex) (va wa : Option Addr) (vc wc : Nat) (t : List UInt8) (r : Int) (w : World) (hop : h.op = ⟨#[110, 117, 108, 108]⟩) (ht : t.length ≤ 1000000) (hR1 : w.rangeAt bk off (exC y.h y.ar.len va vc wa wc).toList) (hC : ∀ W, Below w.heap.size w W → Calls Tryz.prog 52 #[.agg (exC y.h y.ar.len va vc wa wc)] W (Sr (B8 (t)) W)) : Calls Tryz.prog 110 #[.agg (exC h 1 ua uc (some ⟨bk, off, none⟩) ac)] w (Sr (B8 (([110, 117, 108, 108, 40] ++ t) ++ [41])) w) := by
 have bb := balloc (b0 w) (.cells (exC h 1 ua uc (some ⟨bk, off, none⟩) ac) 29)
 have B0 := Lib.hid bb
 have G := Lib.hid (Blk.new w 29 (exC h 1 ua uc (some ⟨bk, off, none⟩) ac))
 have R1 := Lib.hid (range_keeps hR1 bb)
 have HC := Lib.hid (fun (W : World) (b : Below w.heap.size w W) => hC W b)
 clear hC bb hR1
 have A1 := add_b8 ([110, 117, 108, 108, 40]) (t) (by first | omega | (simp only [List.length_append]; omega) | (simp only [List.length_cons, List.length_nil]; omega) | (simp only [List.length_cons, List.length_append, List.length_nil]; omega) | decide) (by first | omega | (simp only [List.length_append]; omega) | (simp only [List.length_cons, List.length_nil]; omega) | (simp only [List.length_cons, List.length_append, List.length_nil]; omega) | decide)
 replace A1 : ∀ W, (Op.stringOp .add ⟨#[110, 117, 108, 108, 40]⟩ (B8 t)).run Tryz.prog W = .ok (.string (B8 ([110, 117, 108, 108, 40] ++ t))) W := A1
 have A2 := add_b8 (([110, 117, 108, 108, 40] ++ t)) ([41]) (by first | omega | (simp only [List.length_append]; omega) | (simp only [List.length_cons, List.length_nil]; omega) | (simp only [List.length_cons, List.length_append, List.length_nil]; omega) | decide) (by first | omega | (simp only [List.length_append]; omega) | (simp only [List.length_cons, List.length_nil]; omega) | (simp only [List.length_cons, List.length_append, List.length_nil]; omega) | decide)
 replace A2 : ∀ W, (Op.stringOp .add (B8 ([110, 117, 108, 108, 40] ++ t)) ⟨#[41]⟩).run Tryz.prog W = .ok (.string (B8 (([110, 117, 108, 108, 40] ++ t) ++ [41]))) W := A2
 clear ht
 generalize B8 (([110, 117, 108, 108, 40] ++ t) ++ [41]) = s3 at *
 generalize B8 ([110, 117, 108, 108, 40] ++ t) = s2 at *
 generalize B8 t = s1 at *
 have e_m := eqL h.op [45]
 have d_m : (h.op.toList == [45]) = false := by rw [e_m, hop]; decide
 have e_n := eqL h.op [110, 111, 116]
 have d_n : (h.op.toList == [110, 111, 116]) = false := by rw [e_n, hop]; decide
 clear e_m e_n
 replace hop := Lib.hid hop
 unfold exC at *
 go_enter Tryz.func110, Tryz.ntmps110
 go_upto_region 1 with fail
 generalize hw0 : (w.alloc (.cells #[.int .i64 h.k, .string h.op, .string h.nm, .string h.tb, .int .i64 h.vk, .int .i64 h.vn, .string h.vs, .slice ua h.un.length uc, .int .i64 h.pa, .int .i64 h.wk, .int .i64 h.ws, .slice (some ⟨bk, off, none⟩) 1 ac] 29)) = w0 at *
 generalize hg2 : w.heap.size = g2 at G ⊢
 clear hw0 hg2
 have c1 := G.out.cell 1
 have c11 := G.out.cell 11
 simp only [List.getElem?_toArray, List.getElem?_cons_zero, List.getElem?_cons_succ] at c1 c11
 go_wp2_with (refine arm_mid infX Tryz.underlying29 rfl (.tmp 23) rfl rfl bk off (exC y.h y.ar.len va vc wa wc) rfl R1.out rfl ?_)
 refine (HC.out _ B0.out).mono ?_
 rintro e w1 ⟨rfl, b1⟩
 have B1 := Lib.hid (bnext B0.out b1)
 clear b1 HC
 go_wp2_with fail
 go_ret
 exact sr_of rfl B1.out
end Go.Proofs.YtbahfelnbofjjaaGreatDoor.ch

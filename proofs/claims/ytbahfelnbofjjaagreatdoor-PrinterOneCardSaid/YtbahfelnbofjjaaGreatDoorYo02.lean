/-
  The reference's rules of proper form of literals and aggregates
-/
import Derived.Test.YtbahfelnbofjjaaGreatDoorQ06
import Derived.Test.YtbahfelnbofjjaaGreatDoorQ08
import Derived.Test.YtbahfelnbofjjaaGreatDoorYo01
namespace Go.Proofs.YtbahfelnbofjjaaGreatDoor.ch
open Go.RowKit dec

theorem fl_k {h g : Hd} (e : h.k = g.k) : flR h g = same h g := by
  unfold flR
  rw [decide_eq_true e, Bool.true_and]
def litG (h : Hd) : Hd := { h0 with k := 1, nm := h.nm, vk := h.vk, vn := h.vn, vs := h.vs, un := h.un }
def rliR (h : Hd) : Bool := decide (ck ⟨h.vk, h.vn, h.vs⟩ = 0) && (decide (0 ≤ h.vn) && (decide (tyE ⟨h.vk, h.un, h.nm⟩ = 0) && flR h (litG h)))
theorem rli_is {h : Hd} (e : h.k = 1) : rliR h = litH h := by
  unfold rliR litH
  rw [fl_k (g := litG h) e]
  rfl
set_option maxRecDepth 100000 in
set_option maxHeartbeats 4000000 in
theorem rliteral_any (h : Hd) (n : Nat) (ua aa : Option Addr) (uc ac : Nat) (w : World) (hs : h.vs.size ≤ 140737488355328) (hU : un.Sl w ua h.un.length uc h.un) : Calls Tryz.prog 170 #[.agg (exC h n ua uc aa ac)] w (Bl (rliR h) w) := by
  have bb := balloc (b0 w) (.cells (exC h n ua uc aa ac) 29)
  have B0 := Lib.hid bb
  have G := Lib.hid (Blk.new w 29 (exC h n ua uc aa ac))
  have S0 := Lib.hid (hU.keeps bb)
  have CC := Lib.hid (fun (W : World) => rcheck_any h.vk h.vn h.vs hs W)
  have CT := Lib.hid (fun (W : World) (S : un.Sl W ua h.un.length uc h.un) => (show Calls Tryz.prog 29 #[.agg #[.int .i64 h.vk, .slice ua h.un.length uc, .string h.nm]] W (Num (tyE ⟨h.vk, h.un, h.nm⟩) W) from rtype_any ⟨h.vk, h.un, h.nm⟩ ua uc W S))
  have CF := Lib.hid (fun (W : World) (S : un.Sl W ua h.un.length uc h.un) => (show Calls Tryz.prog 70 #[.agg #[.int .i64 h.k, .string h.op, .string h.nm, .string h.tb, .int .i64 h.vk, .int .i64 h.vn, .string h.vs, .slice ua h.un.length uc, .int .i64 h.pa, .int .i64 h.wk, .int .i64 h.ws, .slice aa n ac], .agg #[.int .i64 1, .string ⟨#[]⟩, .string h.nm, .string ⟨#[]⟩, .int .i64 h.vk, .int .i64 h.vn, .string h.vs, .slice ua h.un.length uc, .int .i64 0, .int .i64 0, .int .i64 0, .slice none 0 0]] W (Bl (flR h (litG h)) W) from flat_any h (litG h) n 0 ua ua aa none uc uc ac 0 W S S))
  have hE : rliR h = rliR h := rfl
  conv at hE => rhs; unfold rliR
  replace hE := Lib.hid hE
  clear hU bb
  unfold exC at *
  generalize flR h (litG h) = r at *
  generalize tyE ⟨h.vk, h.un, h.nm⟩ = t at *
  generalize ck ⟨h.vk, h.vn, h.vs⟩ = c at *
  go_enter Tryz.func170, Tryz.ntmps170
  go_wp2_with fail
  refine (CC.out _).mono ?_
  rintro e w1 ⟨rfl, b1⟩
  have B1 := Lib.hid (bnext B0.out b1)
  replace G := Lib.hid (G.out.keeps b1)
  replace S0 := Lib.hid (S0.out.keeps b1)
  have c0 := G.out.cell 0
  have c1 := G.out.cell 1
  have c2 := G.out.cell 2
  have c3 := G.out.cell 3
  have c4 := G.out.cell 4
  have c5 := G.out.cell 5
  have c6 := G.out.cell 6
  have c7 := G.out.cell 7
  have c8 := G.out.cell 8
  have c9 := G.out.cell 9
  have c10 := G.out.cell 10
  have c11 := G.out.cell 11
  simp only [List.getElem?_toArray, List.getElem?_cons_zero, List.getElem?_cons_succ] at c0 c1 c2 c3 c4 c5 c6 c7 c8 c9 c10 c11
  clear b1 CC
  by_cases hc : c = 0
  · have qc := in_is hc
    have qd : (c != 0) = false := by simp [hc]
    replace hE := hE.out
    rw [decide_eq_true hc, Bool.true_and] at hE
    replace hE := Lib.hid hE
    clear hc
    by_cases hn : 0 ≤ h.vn
    · have qn : decide (h.vn < 0) = false := decide_eq_false (by omega)
      replace hE := hE.out
      rw [decide_eq_true hn, Bool.true_and] at hE
      replace hE := Lib.hid hE
      clear hn
      go_upto_region 4 with (first | (refine arm_storeT infTy (.tmp 3) (.tmp 21) rfl rfl _ _ _ _ rfl rfl (Blk.new _ _ _) rfl rfl (by simp [Value.oneCell']) ?_; intro w2 L hs2; have bb := (balloc (b0 w1) _).trans (hs2.below (Nat.le_refl _))))
      have B2 := Lib.hid (bnext B1.out bb)
      have V3 := Lib.hid L
      replace G := Lib.hid (G.out.keeps bb)
      replace S0 := Lib.hid (S0.out.keeps bb)
      clear L hs2 bb c0 c1 c2 c3 c4 c5 c6 c7 c8 c9 c10 c11
      generalize w1.heap.size = g3 at *
      go_wp2_with (first | (refine arm_loadT infTy Tryz.underlying31 rfl (.tmp 3) rfl rfl _ _ _ rfl V3.out rfl ?_))
      refine (CT.out _ S0.out).mono ?_
      rintro e w3 ⟨rfl, b3⟩
      have B3 := Lib.hid (bnext B2.out b3)
      replace G := Lib.hid (G.out.keeps b3)
      replace S0 := Lib.hid (S0.out.keeps b3)
      have c2 := G.out.cell 2
      have c4 := G.out.cell 4
      have c5 := G.out.cell 5
      have c6 := G.out.cell 6
      have c7 := G.out.cell 7
      simp only [List.getElem?_toArray, List.getElem?_cons_zero, List.getElem?_cons_succ] at c2 c4 c5 c6 c7
      clear b3 CT V3
      have c456 := Lib.hid (blk_range G.out 4 [.int .i64 h.vk, .int .i64 h.vn, .string h.vs] rfl)
      by_cases ht : t = 0
      · have qt := in_is ht
        replace hE := hE.out
        rw [decide_eq_true ht, Bool.true_and] at hE
        replace hE := Lib.hid hE
        clear ht
        go_wp2_with (first | (refine arm_loadG infX Tryz.underlying29 rfl (.tmp 1) rfl rfl _ _ _ rfl G.out rfl ?_) | (refine arm_loadT infX Tryz.underlying29 rfl (.tmp 1) rfl rfl _ _ _ rfl G.out rfl ?_))
        refine (CF.out _ S0.out).mono ?_
        rintro e w4 ⟨rfl, b4⟩
        have B4 := Lib.hid (bnext B3.out b4)
        clear b4 CF
        go_wp2_with fail
        go_ret
        exact bl_of (by rw [hE.out]) B4.out
      · have qt := in_ne ht
        replace hE := hE.out
        rw [decide_eq_false ht, Bool.false_and] at hE
        replace hE := Lib.hid hE
        clear ht
        go_wp2_with fail
        go_ret
        exact bl_of (by rw [hE.out]) B3.out
    · have qn : decide (h.vn < 0) = true := decide_eq_true (by omega)
      replace hE := hE.out
      rw [decide_eq_false hn, Bool.false_and] at hE
      replace hE := Lib.hid hE
      clear hn
      go_wp2_with fail
      go_ret
      exact bl_of (by rw [hE.out]) B1.out
  · have qc := in_ne hc
    have qd : (c != 0) = true := by simp [hc]
    replace hE := hE.out
    rw [decide_eq_false hc, Bool.false_and] at hE
    replace hE := Lib.hid hE
    clear hc
    go_wp2_with fail
    go_ret
    exact bl_of (by rw [hE.out]) B1.out
end Go.Proofs.YtbahfelnbofjjaaGreatDoor.ch

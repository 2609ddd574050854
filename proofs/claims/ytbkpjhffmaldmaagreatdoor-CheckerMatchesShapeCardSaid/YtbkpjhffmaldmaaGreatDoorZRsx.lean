/-
  The reference's SameExpr against True.
-/
import Derived.Test.YtbkpjhffmaldmaaGreatDoorQ12
import Derived.Test.YtbkpjhffmaldmaaGreatDoorZRfl
namespace Go.Proofs.YtbkpjhffmaldmaaGreatDoor.ch
open Go.RowKit dec

def rsxR (h : Hd) (n : Nat) : Bool := flR h truX.h && decide (n = 0)
set_option maxRecDepth 100000 in
set_option maxHeartbeats 4000000 in
theorem sameTrue_any (h : Hd) (n : Nat) (ua aa : Option Addr) (uc ac : Nat) (w : World) (hU : un.Sl w ua h.un.length uc h.un) : Calls Tryz.prog 65 #[.agg (exC h n ua uc aa ac), .agg (exC truX.h 0 none 0 none 0)] w (Bl (rsxR h n) w) := by
  have bb := below_two w (.cells (exC h n ua uc aa ac) 29) (.cells (exC truX.h 0 none 0 none 0) 29)
  have B0 := Lib.hid bb
  have GG := bw_two w (exC h n ua uc aa ac) (exC truX.h 0 none 0 none 0) 29 29
  have G := Lib.hid GG.1
  have H := Lib.hid GG.2
  have S0 := Lib.hid (hU.keeps bb)
  have CF := Lib.hid (fun (W : World) (S : un.Sl W ua h.un.length uc h.un) => (show Calls Tryz.prog 102 #[.agg #[.int .i64 h.k, .string h.op, .string h.nm, .string h.tb, .int .i64 h.vk, .int .i64 h.vn, .string h.vs, .slice ua h.un.length uc, .int .i64 h.pa, .int .i64 h.wk, .int .i64 h.ws, .slice aa n ac], .agg (exC truX.h 0 none 0 none 0)] W (Bl (flR h truX.h) W) from flat_any h truX.h n 0 ua none aa none uc 0 ac 0 W S (un.Sl.nil W)))
  have hE : rsxR h n = (flR h truX.h && decide (n = 0)) := rfl
  replace hE := Lib.hid hE
  clear hU bb GG
  generalize flR h truX.h = R at *
  generalize ht : (exC truX.h 0 none 0 none 0) = tv at *
  have e11 := Lib.hid (show tv[11]? = some (.slice none 0 0) from by rw [← ht]; rfl)
  have esz := Lib.hid (show tv.size = 12 from by rw [← ht]; rfl)
  clear ht
  unfold exC at *
  go_enter Tryz.func65, Tryz.ntmps65
  go_upto_region 1 with fail
  generalize hw0 : ((w.alloc (.cells #[.int .i64 h.k, .string h.op, .string h.nm, .string h.tb, .int .i64 h.vk, .int .i64 h.vn, .string h.vs, .slice ua h.un.length uc, .int .i64 h.pa, .int .i64 h.wk, .int .i64 h.ws, .slice aa n ac] 29)).alloc (.cells tv 29)) = w0 at *
  clear hw0
  generalize hg3 : w.heap.size + 1 = g3 at H ⊢
  generalize hg2 : w.heap.size = g2 at G ⊢
  clear hg2 hg3
  go_wp2_with (first | (refine arm_loadT infX Tryz.underlying29 rfl (.tmp 2) rfl rfl _ _ _ rfl G.out rfl ?_) | (refine arm_loadT infX Tryz.underlying29 rfl (.tmp 3) rfl rfl _ _ _ rfl H.out esz.out ?_))
  refine (CF.out _ S0.out).mono ?_
  rintro e w1 ⟨rfl, b1⟩
  have B1 := Lib.hid (bnext B0.out b1)
  replace G := Lib.hid (G.out.keeps b1)
  replace H := Lib.hid (H.out.keeps b1)
  replace S0 := Lib.hid (S0.out.keeps b1)
  clear b1
  have c11 := G.out.cell 11
  have m11 := H.out.cell 11
  rw [e11.out] at m11
  simp only [List.getElem?_toArray, List.getElem?_cons_zero, List.getElem?_cons_succ] at c11
  clear CF
  cases R
  · go_wp2_with fail
    go_ret
    exact bl_of (by rw [hE.out]; rfl) B1.out
  · by_cases hn : n = 0
    · have q := in_is (show (n : Int) = 0 by omega)
      have q2 : ((n : Int) != 0) = false := by subst hn; rfl
      subst hn
      go_wp2_with fail
      go_loopw [5] (fun vi wr => vi = .int .i64 0 ∧ wr = w1) (fun _ _ => 0)
      case atStart => exact ⟨rfl, rfl⟩
      case round =>
        obtain ⟨rfl, rfl⟩ := hrel
        go_wp2_with fail
        go_ret
        exact bl_of (by rw [hE.out]; rfl) B1.out
    · have q2 : ((n : Int) != 0) = true := by simp [hn]
      have q3 := decide_eq_false hn
      replace hn := Lib.hid hn
      go_wp2_with fail
      go_ret
      exact bl_of (by rw [hE.out, q3]; rfl) B1.out
end Go.Proofs.YtbkpjhffmaldmaaGreatDoor.ch

/-
  The reference's flat, One and lists of words.
-/
import Derived.Test.YtbkpjhffmaldmaaGreatDoorQ07
namespace Go.Proofs.YtbkpjhffmaldmaaGreatDoor.ch
open Go.RowKit dec

def flR (h g : Hd) : Bool := decide (h.k = g.k) && same h g
set_option maxRecDepth 100000 in
set_option maxHeartbeats 4000000 in
theorem flat_any (h g : Hd) (n m : Nat) (ua ub aa ab : Option Addr) (uc ud ac ad : Nat) (w : World) (hU : un.Sl w ua h.un.length uc h.un) (hV : un.Sl w ub g.un.length ud g.un) :
    Calls Tryz.prog 102 #[.agg (exC h n ua uc aa ac), .agg (exC g m ub ud ab ad)] w (Bl (flR h g) w) := by
  have bb := below_two w (.cells (exC h n ua uc aa ac) 29) (.cells (exC g m ub ud ab ad) 29)
  have B0 := Lib.hid bb
  have GG := bw_two w (exC h n ua uc aa ac) (exC g m ub ud ab ad) 29 29
  have G1 := Lib.hid GG.1
  have G2 := Lib.hid GG.2
  have CS := Lib.hid (un.rsame_any _ _ _ _ _ _ _ _ _ (hU.keeps bb) (hV.keeps bb))
  have hE : flR h g = flR h g := rfl
  conv at hE => rhs; unfold flR same
  replace hE := Lib.hid hE
  clear hU hV bb GG
  unfold exC at *
  by_cases hk : h.k = g.k
  · have qn := in_is hk
    replace hE := hE.out
    simp only [decide_eq_true hk, Bool.true_and] at hE
    replace hE := Lib.hid hE
    clear hk
    by_cases e0 : h.op = g.op
    · have qhop := bs_is e0
      replace hE := hE.out
      simp only [decide_eq_true e0, Bool.true_and] at hE
      replace hE := Lib.hid hE
      clear e0
      by_cases e1 : h.nm = g.nm
      · have qhnm := bs_is e1
        replace hE := hE.out
        simp only [decide_eq_true e1, Bool.true_and] at hE
        replace hE := Lib.hid hE
        clear e1
        by_cases e2 : h.tb = g.tb
        · have qhtb := bs_is e2
          replace hE := hE.out
          simp only [decide_eq_true e2, Bool.true_and] at hE
          replace hE := Lib.hid hE
          clear e2
          by_cases e3 : h.vk = g.vk
          · have qhvk := in_is e3
            replace hE := hE.out
            simp only [decide_eq_true e3, Bool.true_and] at hE
            replace hE := Lib.hid hE
            clear e3
            by_cases e4 : h.vn = g.vn
            · have qhvn := in_is e4
              replace hE := hE.out
              simp only [decide_eq_true e4, Bool.true_and] at hE
              replace hE := Lib.hid hE
              clear e4
              by_cases e5 : h.vs = g.vs
              · have qhvs := bs_is e5
                replace hE := hE.out
                simp only [decide_eq_true e5, Bool.true_and] at hE
                replace hE := Lib.hid hE
                clear e5
                go_enter Tryz.func102, Tryz.ntmps102
                go_wp2_with fail
                refine (CS.out).mono ?_
                rintro e w1 ⟨rfl, b1⟩
                have B1 := Lib.hid (bnext B0.out b1)
                replace G1 := Lib.hid (G1.out.keeps b1)
                replace G2 := Lib.hid (G2.out.keeps b1)
                have c8 := G1.out.cell 8
                have c9 := G1.out.cell 9
                have c10 := G1.out.cell 10
                simp only [List.getElem?_toArray, List.getElem?_cons_zero, List.getElem?_cons_succ] at c8 c9 c10
                have d8 := G2.out.cell 8
                have d9 := G2.out.cell 9
                have d10 := G2.out.cell 10
                simp only [List.getElem?_toArray, List.getElem?_cons_zero, List.getElem?_cons_succ] at d8 d9 d10
                clear b1 CS
                have hu : decide (h.un = g.un) = un.sameB h.un g.un := rfl
                replace hE := hE.out
                rw [hu] at hE
                replace hE := Lib.hid hE
                clear hu
                generalize un.sameB h.un g.un = u at *
                cases u
                · replace hE := hE.out
                  simp only [Bool.false_and] at hE
                  replace hE := Lib.hid hE
                  go_wp2_with fail
                  go_ret
                  exact bl_of (by rw [hE.out]) B1.out
                · replace hE := hE.out
                  simp only [Bool.true_and] at hE
                  replace hE := Lib.hid hE
                  by_cases e0 : h.pa = g.pa
                  · have qhpa := in_is e0
                    replace hE := hE.out
                    simp only [decide_eq_true e0, Bool.true_and] at hE
                    replace hE := Lib.hid hE
                    clear e0
                    by_cases e1 : h.wk = g.wk
                    · have qhwk := in_is e1
                      replace hE := hE.out
                      simp only [decide_eq_true e1, Bool.true_and] at hE
                      replace hE := Lib.hid hE
                      clear e1
                      by_cases e2 : h.ws = g.ws
                      · have qhws := in_is e2
                        replace hE := hE.out
                        simp only [decide_eq_true e2] at hE
                        replace hE := Lib.hid hE
                        clear e2
                        go_wp2_with fail
                        go_ret
                        exact bl_of (by rw [hE.out]) B1.out
                      · have qhws := in_ne e2
                        replace hE := hE.out
                        simp only [decide_eq_false e2] at hE
                        replace hE := Lib.hid hE
                        clear e2
                        go_wp2_with fail
                        go_ret
                        exact bl_of (by rw [hE.out]) B1.out
                    · have qhwk := in_ne e1
                      replace hE := hE.out
                      simp only [decide_eq_false e1, Bool.false_and] at hE
                      replace hE := Lib.hid hE
                      clear e1
                      go_wp2_with fail
                      go_ret
                      exact bl_of (by rw [hE.out]) B1.out
                  · have qhpa := in_ne e0
                    replace hE := hE.out
                    simp only [decide_eq_false e0, Bool.false_and] at hE
                    replace hE := Lib.hid hE
                    clear e0
                    go_wp2_with fail
                    go_ret
                    exact bl_of (by rw [hE.out]) B1.out
              · have qhvs := bs_ne e5
                replace hE := hE.out
                simp only [decide_eq_false e5, Bool.false_and] at hE
                replace hE := Lib.hid hE
                clear e5
                go_enter Tryz.func102, Tryz.ntmps102
                go_wp2_with fail
                go_ret
                exact bl_of (by rw [hE.out]) B0.out
            · have qhvn := in_ne e4
              replace hE := hE.out
              simp only [decide_eq_false e4, Bool.false_and] at hE
              replace hE := Lib.hid hE
              clear e4
              go_enter Tryz.func102, Tryz.ntmps102
              go_wp2_with fail
              go_ret
              exact bl_of (by rw [hE.out]) B0.out
          · have qhvk := in_ne e3
            replace hE := hE.out
            simp only [decide_eq_false e3, Bool.false_and] at hE
            replace hE := Lib.hid hE
            clear e3
            go_enter Tryz.func102, Tryz.ntmps102
            go_wp2_with fail
            go_ret
            exact bl_of (by rw [hE.out]) B0.out
        · have qhtb := bs_ne e2
          replace hE := hE.out
          simp only [decide_eq_false e2, Bool.false_and] at hE
          replace hE := Lib.hid hE
          clear e2
          go_enter Tryz.func102, Tryz.ntmps102
          go_wp2_with fail
          go_ret
          exact bl_of (by rw [hE.out]) B0.out
      · have qhnm := bs_ne e1
        replace hE := hE.out
        simp only [decide_eq_false e1, Bool.false_and] at hE
        replace hE := Lib.hid hE
        clear e1
        go_enter Tryz.func102, Tryz.ntmps102
        go_wp2_with fail
        go_ret
        exact bl_of (by rw [hE.out]) B0.out
    · have qhop := bs_ne e0
      replace hE := hE.out
      simp only [decide_eq_false e0, Bool.false_and] at hE
      replace hE := Lib.hid hE
      clear e0
      go_enter Tryz.func102, Tryz.ntmps102
      go_wp2_with fail
      go_ret
      exact bl_of (by rw [hE.out]) B0.out
  · have qn := in_ne hk
    replace hE := hE.out
    simp only [decide_eq_false hk, Bool.false_and] at hE
    replace hE := Lib.hid hE
    clear hk
    go_enter Tryz.func102, Tryz.ntmps102
    go_wp2_with fail
    go_ret
    exact bl_of (by rw [hE.out]) B0.out

/-! Lists of words. -/
def SsV (w : World) (a : Option Addr) (l : List ByteArray) : Prop := l.length = 0 ∨ ∃ b off, a = some ⟨b, off, none⟩ ∧ ∀ j (h : j < l.length), w.cell? ⟨b, off + j, none⟩ = some (.string l[j])
theorem SsV.keeps {w w' : World} {a : Option Addr} {l : List ByteArray} (h : SsV w a l) (hb : Below w.heap.size w w') : SsV w' a l := h.imp id fun ⟨b, off, e, hA⟩ => ⟨b, off, e, fun j hj => dec.keeps hb (hA j hj)⟩
theorem ss_blk {w : World} {g : Nat} {T : TypeId} {l : List ByteArray} (h : Blk w g T (l.map Value.string).toArray) : SsV w (some ⟨g, 0, none⟩) l := .inr ⟨g, 0, rfl, fun j hj => by
  rw [Nat.zero_add, h.cell]
  simp [hj]⟩
theorem any_step (s : ByteArray) {l : List ByteArray} {j : Nat} (h : j < l.length) : (l.drop j).any (fun t => decide (t = s)) = (decide (l[j] = s) || (l.drop (j + 1)).any fun t => decide (t = s)) := by
  rw [List.drop_eq_getElem_cons h, List.any_cons]
set_option maxRecDepth 100000 in
theorem one_any (s : ByteArray) (a : Option Addr) (c : Nat) (l : List ByteArray) (hl : l.length ≤ 1000) (w : World) (hA : SsV w a l) : Calls Tryz.prog 105 #[.string s, .slice a l.length c] w fun e w' => e = .returned (.bool (l.any fun t => decide (t = s))) ∧ w = w' := by
  have HA := Lib.hid hA
  have hE := Lib.hid (show l.any (fun t => decide (t = s)) = (l.drop 0).any fun t => decide (t = s) by rw [List.drop_zero])
  clear hA
  generalize l.any (fun t => decide (t = s)) = V at *
  go_enter Tryz.func105, Tryz.ntmps105
  go_wp2_with fail
  go_loopw [5] (fun x wr => ∃ j : Nat, x = .int .i64 (j : Nat) ∧ Hid (j ≤ l.length) ∧ Hid (V = (l.drop j).any fun t => decide (t = s)) ∧ wr = w) (fun x _ => l.length - (intOf x).toNat)
  case atStart => exact ⟨0, rfl, Lib.hid (Nat.zero_le _), hE, rfl⟩
  case round =>
    clear hE
    obtain ⟨j, rfl, hj, hE, rfl⟩ := hrel
    by_cases hlt : j < l.length
    · have q1 : decide ((j : Int) < (l.length : Int)) = true := decide_eq_true (by omega)
      have i1 : (j : Int) < (l.length : Int) := by omega
      have f4 := Lib.hid (next_at (j := j) (by omega))
      obtain ⟨b, off, rfl, hc⟩ := HA.out.resolve_left (by omega)
      have c1 := hc j hlt
      replace hE := Lib.hid (hE.out.trans (any_step s hlt))
      clear hc HA hj
      generalize hx : l[j] = x at *
      by_cases he : x = s
      · have q2 := bs_is he
        replace hE := Lib.hid (hE.out.trans (by rw [decide_eq_true he, Bool.true_or] : _ = true))
        clear he
        go_wp2_with fail
        go_ret
        exact ⟨congrArg (fun b => Ending.returned (Value.bool b)) hE.out.symm, rfl⟩
      · have q2 := bs_ne he
        replace hE := Lib.hid (hE.out.trans (by rw [decide_eq_false he, Bool.false_or]))
        clear he
        go_wp2_with fail
        exact ⟨⟨j + 1, rfl, Lib.hid hlt, hE, trivial⟩, less_at hlt rfl⟩
    · have q1 : decide ((j : Int) < (l.length : Int)) = false := decide_eq_false (by omega)
      replace hE := Lib.hid (hE.out.trans (by rw [List.drop_eq_nil_of_le (by omega)]; rfl : _ = false))
      go_wp2_with fail
      go_ret
      exact ⟨congrArg (fun b => Ending.returned (Value.bool b)) hE.out.symm, rfl⟩
def opsL : List ByteArray := [⟨#[43]⟩, ⟨#[45]⟩, ⟨#[42]⟩, ⟨#[47]⟩, ⟨#[61, 61]⟩, ⟨#[33, 61]⟩, ⟨#[60]⟩, ⟨#[60, 61]⟩, ⟨#[97, 110, 100]⟩, ⟨#[111, 114]⟩]
def aggL : List ByteArray := [⟨#[99, 111, 117, 110, 116]⟩, ⟨#[115, 117, 109]⟩, ⟨#[109, 101, 97, 110]⟩, ⟨#[109, 105, 110]⟩, ⟨#[109, 97, 120]⟩, ⟨#[102, 105, 114, 115, 116]⟩, ⟨#[108, 97, 115, 116]⟩, ⟨#[100, 105, 115, 116, 105, 110, 99, 116]⟩, ⟨#[113, 117, 97, 110, 116, 105, 108, 101]⟩, ⟨#[100, 101, 99, 97, 121]⟩]
set_option maxRecDepth 100000 in
theorem operators_any (w : World) : Calls Tryz.prog 106 #[] w fun e w' => ∃ a, e = .returned (.slice a 10 10) ∧ SsV w' a opsL ∧ Below w.heap.size w w' := by
  go_enter Tryz.func106, Tryz.ntmps106
  go_wp2_with fail
  go_ret
  exact ⟨_, rfl, ss_blk (l := opsL) (Blk.new _ _ _), balloc (b0 w) _⟩
set_option maxRecDepth 100000 in
theorem aggregates_r (w : World) : Calls Tryz.prog 137 #[] w fun e w' => ∃ a, e = .returned (.slice a 10 10) ∧ SsV w' a aggL ∧ Below w.heap.size w w' := by
  go_enter Tryz.func137, Tryz.ntmps137
  go_wp2_with fail
  go_ret
  exact ⟨_, rfl, ss_blk (l := aggL) (Blk.new _ _ _), balloc (b0 w) _⟩
set_option maxRecDepth 100000 in
set_option maxHeartbeats 4000000 in
theorem window_any (k n : Int) (w : World) : Calls Tryz.prog 138 #[.agg #[.int .i64 k, .int .i64 n]] w (Bl (winH k n) w) := by
  go_enter Tryz.func138, Tryz.ntmps138
  go_wp2_with fail
  all_goals first
    | (exfalso; simp_all; done)
    | (go_ret; refine bl_of ?_ (balloc (b0 w) _); simp only [eqI] at *; unfold winH; simp_all; done)
    | (go_ret; refine bl_of ?_ (balloc (b0 w) _); simp only [eqI] at *; unfold winH; simp_all; omega)
end Go.Proofs.YtbkpjhffmaldmaaGreatDoor.ch

/-
  The reference's flat, One and lists of words; The reference's SameExpr against True; The reference's SameExpr, for all expressions; The reference's Word; The reference's Check; The reference's Type; Has; the reference's Check and Has: for every value
-/
import Derived.Test.YtbahfelnbofjjaaGreatDoorQ01
import Derived.Test.YtbahfelnbofjjaaGreatDoorQ04
import Derived.Test.YtbahfelnbofjjaaGreatDoorQ05
import Derived.Test.YtbahfelnbofjjaaGreatDoorQ06
import Derived.Test.YtbahfelnbofjjaaGreatDoorQ07
import Derived.Test.YtbahfelnbofjjaaGreatDoorQ10
import Derived.Test.YtbahfelnbofjjaaGreatDoorQ14
namespace Go.Proofs.YtbahfelnbofjjaaGreatDoor.ch
open Go.RowKit dec

def flR (h g : Hd) : Bool := decide (h.k = g.k) && same h g
set_option maxRecDepth 100000 in
set_option maxHeartbeats 4000000 in
theorem flat_any (h g : Hd) (n m : Nat) (ua ub aa ab : Option Addr) (uc ud ac ad : Nat) (w : World) (hU : un.Sl w ua h.un.length uc h.un) (hV : un.Sl w ub g.un.length ud g.un) :
    Calls Tryz.prog 70 #[.agg (exC h n ua uc aa ac), .agg (exC g m ub ud ab ad)] w (Bl (flR h g) w) := by
  have bb := below_two w (.cells (exC h n ua uc aa ac) 29) (.cells (exC g m ub ud ab ad) 29)
  have B0 := Lib.hid bb
  have GG := bw_two w (exC h n ua uc aa ac) (exC g m ub ud ab ad) 29 29
  have G1 := Lib.hid GG.1
  have G2 := Lib.hid GG.2
  have CS := Lib.hid (un.rsame_any _ _ _ _ _ _ _ _ _ (hU.keeps bb) (hV.keeps bb))
  have hE : flR h g = flR h g := rfl
  conv at hE => rhs; unfold flR same
  replace hE := Lib.hid hE
  clear hU hV bb GG
  unfold exC at *
  by_cases hk : h.k = g.k
  · have qn := in_is hk
    replace hE := hE.out
    simp only [decide_eq_true hk, Bool.true_and] at hE
    replace hE := Lib.hid hE
    clear hk
    by_cases e0 : h.op = g.op
    · have qhop := bs_is e0
      replace hE := hE.out
      simp only [decide_eq_true e0, Bool.true_and] at hE
      replace hE := Lib.hid hE
      clear e0
      by_cases e1 : h.nm = g.nm
      · have qhnm := bs_is e1
        replace hE := hE.out
        simp only [decide_eq_true e1, Bool.true_and] at hE
        replace hE := Lib.hid hE
        clear e1
        by_cases e2 : h.tb = g.tb
        · have qhtb := bs_is e2
          replace hE := hE.out
          simp only [decide_eq_true e2, Bool.true_and] at hE
          replace hE := Lib.hid hE
          clear e2
          by_cases e3 : h.vk = g.vk
          · have qhvk := in_is e3
            replace hE := hE.out
            simp only [decide_eq_true e3, Bool.true_and] at hE
            replace hE := Lib.hid hE
            clear e3
            by_cases e4 : h.vn = g.vn
            · have qhvn := in_is e4
              replace hE := hE.out
              simp only [decide_eq_true e4, Bool.true_and] at hE
              replace hE := Lib.hid hE
              clear e4
              by_cases e5 : h.vs = g.vs
              · have qhvs := bs_is e5
                replace hE := hE.out
                simp only [decide_eq_true e5, Bool.true_and] at hE
                replace hE := Lib.hid hE
                clear e5
                go_enter Tryz.func70, Tryz.ntmps70
                go_wp2_with fail
                refine (CS.out).mono ?_
                rintro e w1 ⟨rfl, b1⟩
                have B1 := Lib.hid (bnext B0.out b1)
                replace G1 := Lib.hid (G1.out.keeps b1)
                replace G2 := Lib.hid (G2.out.keeps b1)
                have c8 := G1.out.cell 8
                have c9 := G1.out.cell 9
                have c10 := G1.out.cell 10
                simp only [List.getElem?_toArray, List.getElem?_cons_zero, List.getElem?_cons_succ] at c8 c9 c10
                have d8 := G2.out.cell 8
                have d9 := G2.out.cell 9
                have d10 := G2.out.cell 10
                simp only [List.getElem?_toArray, List.getElem?_cons_zero, List.getElem?_cons_succ] at d8 d9 d10
                clear b1 CS
                have hu : decide (h.un = g.un) = un.sameB h.un g.un := rfl
                replace hE := hE.out
                rw [hu] at hE
                replace hE := Lib.hid hE
                clear hu
                generalize un.sameB h.un g.un = u at *
                cases u
                · replace hE := hE.out
                  simp only [Bool.false_and] at hE
                  replace hE := Lib.hid hE
                  go_wp2_with fail
                  go_ret
                  exact bl_of (by rw [hE.out]) B1.out
                · replace hE := hE.out
                  simp only [Bool.true_and] at hE
                  replace hE := Lib.hid hE
                  by_cases e0 : h.pa = g.pa
                  · have qhpa := in_is e0
                    replace hE := hE.out
                    simp only [decide_eq_true e0, Bool.true_and] at hE
                    replace hE := Lib.hid hE
                    clear e0
                    by_cases e1 : h.wk = g.wk
                    · have qhwk := in_is e1
                      replace hE := hE.out
                      simp only [decide_eq_true e1, Bool.true_and] at hE
                      replace hE := Lib.hid hE
                      clear e1
                      by_cases e2 : h.ws = g.ws
                      · have qhws := in_is e2
                        replace hE := hE.out
                        simp only [decide_eq_true e2] at hE
                        replace hE := Lib.hid hE
                        clear e2
                        go_wp2_with fail
                        go_ret
                        exact bl_of (by rw [hE.out]) B1.out
                      · have qhws := in_ne e2
                        replace hE := hE.out
                        simp only [decide_eq_false e2] at hE
                        replace hE := Lib.hid hE
                        clear e2
                        go_wp2_with fail
                        go_ret
                        exact bl_of (by rw [hE.out]) B1.out
                    · have qhwk := in_ne e1
                      replace hE := hE.out
                      simp only [decide_eq_false e1, Bool.false_and] at hE
                      replace hE := Lib.hid hE
                      clear e1
                      go_wp2_with fail
                      go_ret
                      exact bl_of (by rw [hE.out]) B1.out
                  · have qhpa := in_ne e0
                    replace hE := hE.out
                    simp only [decide_eq_false e0, Bool.false_and] at hE
                    replace hE := Lib.hid hE
                    clear e0
                    go_wp2_with fail
                    go_ret
                    exact bl_of (by rw [hE.out]) B1.out
              · have qhvs := bs_ne e5
                replace hE := hE.out
                simp only [decide_eq_false e5, Bool.false_and] at hE
                replace hE := Lib.hid hE
                clear e5
                go_enter Tryz.func70, Tryz.ntmps70
                go_wp2_with fail
                go_ret
                exact bl_of (by rw [hE.out]) B0.out
            · have qhvn := in_ne e4
              replace hE := hE.out
              simp only [decide_eq_false e4, Bool.false_and] at hE
              replace hE := Lib.hid hE
              clear e4
              go_enter Tryz.func70, Tryz.ntmps70
              go_wp2_with fail
              go_ret
              exact bl_of (by rw [hE.out]) B0.out
          · have qhvk := in_ne e3
            replace hE := hE.out
            simp only [decide_eq_false e3, Bool.false_and] at hE
            replace hE := Lib.hid hE
            clear e3
            go_enter Tryz.func70, Tryz.ntmps70
            go_wp2_with fail
            go_ret
            exact bl_of (by rw [hE.out]) B0.out
        · have qhtb := bs_ne e2
          replace hE := hE.out
          simp only [decide_eq_false e2, Bool.false_and] at hE
          replace hE := Lib.hid hE
          clear e2
          go_enter Tryz.func70, Tryz.ntmps70
          go_wp2_with fail
          go_ret
          exact bl_of (by rw [hE.out]) B0.out
      · have qhnm := bs_ne e1
        replace hE := hE.out
        simp only [decide_eq_false e1, Bool.false_and] at hE
        replace hE := Lib.hid hE
        clear e1
        go_enter Tryz.func70, Tryz.ntmps70
        go_wp2_with fail
        go_ret
        exact bl_of (by rw [hE.out]) B0.out
    · have qhop := bs_ne e0
      replace hE := hE.out
      simp only [decide_eq_false e0, Bool.false_and] at hE
      replace hE := Lib.hid hE
      clear e0
      go_enter Tryz.func70, Tryz.ntmps70
      go_wp2_with fail
      go_ret
      exact bl_of (by rw [hE.out]) B0.out
  · have qn := in_ne hk
    replace hE := hE.out
    simp only [decide_eq_false hk, Bool.false_and] at hE
    replace hE := Lib.hid hE
    clear hk
    go_enter Tryz.func70, Tryz.ntmps70
    go_wp2_with fail
    go_ret
    exact bl_of (by rw [hE.out]) B0.out

/-! Lists of words. -/
def SsV (w : World) (a : Option Addr) (l : List ByteArray) : Prop := l.length = 0 ∨ ∃ b off, a = some ⟨b, off, none⟩ ∧ ∀ j (h : j < l.length), w.cell? ⟨b, off + j, none⟩ = some (.string l[j])
theorem SsV.keeps {w w' : World} {a : Option Addr} {l : List ByteArray} (h : SsV w a l) (hb : Below w.heap.size w w') : SsV w' a l := h.imp id fun ⟨b, off, e, hA⟩ => ⟨b, off, e, fun j hj => dec.keeps hb (hA j hj)⟩
theorem ss_blk {w : World} {g : Nat} {T : TypeId} {l : List ByteArray} (h : Blk w g T (l.map Value.string).toArray) : SsV w (some ⟨g, 0, none⟩) l := .inr ⟨g, 0, rfl, fun j hj => by
  rw [Nat.zero_add, h.cell]
  simp [hj]⟩
theorem any_step (s : ByteArray) {l : List ByteArray} {j : Nat} (h : j < l.length) : (l.drop j).any (fun t => decide (t = s)) = (decide (l[j] = s) || (l.drop (j + 1)).any fun t => decide (t = s)) := by
  rw [List.drop_eq_getElem_cons h, List.any_cons]
set_option maxRecDepth 100000 in
theorem one_any (s : ByteArray) (a : Option Addr) (c : Nat) (l : List ByteArray) (hl : l.length ≤ 1000) (w : World) (hA : SsV w a l) : Calls Tryz.prog 146 #[.string s, .slice a l.length c] w fun e w' => e = .returned (.bool (l.any fun t => decide (t = s))) ∧ w = w' := by
  have HA := Lib.hid hA
  have hE := Lib.hid (show l.any (fun t => decide (t = s)) = (l.drop 0).any fun t => decide (t = s) by rw [List.drop_zero])
  clear hA
  generalize l.any (fun t => decide (t = s)) = V at *
  go_enter Tryz.func146, Tryz.ntmps146
  go_wp2_with fail
  go_loopw [5] (fun x wr => ∃ j : Nat, x = .int .i64 (j : Nat) ∧ Hid (j ≤ l.length) ∧ Hid (V = (l.drop j).any fun t => decide (t = s)) ∧ wr = w) (fun x _ => l.length - (intOf x).toNat)
  case atStart => exact ⟨0, rfl, Lib.hid (Nat.zero_le _), hE, rfl⟩
  case round =>
    clear hE
    obtain ⟨j, rfl, hj, hE, rfl⟩ := hrel
    by_cases hlt : j < l.length
    · have q1 : decide ((j : Int) < (l.length : Int)) = true := decide_eq_true (by omega)
      have i1 : (j : Int) < (l.length : Int) := by omega
      have f4 := Lib.hid (next_at (j := j) (by omega))
      obtain ⟨b, off, rfl, hc⟩ := HA.out.resolve_left (by omega)
      have c1 := hc j hlt
      replace hE := Lib.hid (hE.out.trans (any_step s hlt))
      clear hc HA hj
      generalize hx : l[j] = x at *
      by_cases he : x = s
      · have q2 := bs_is he
        replace hE := Lib.hid (hE.out.trans (by rw [decide_eq_true he, Bool.true_or] : _ = true))
        clear he
        go_wp2_with fail
        go_ret
        exact ⟨congrArg (fun b => Ending.returned (Value.bool b)) hE.out.symm, rfl⟩
      · have q2 := bs_ne he
        replace hE := Lib.hid (hE.out.trans (by rw [decide_eq_false he, Bool.false_or]))
        clear he
        go_wp2_with fail
        exact ⟨⟨j + 1, rfl, Lib.hid hlt, hE, trivial⟩, less_at hlt rfl⟩
    · have q1 : decide ((j : Int) < (l.length : Int)) = false := decide_eq_false (by omega)
      replace hE := Lib.hid (hE.out.trans (by rw [List.drop_eq_nil_of_le (by omega)]; rfl : _ = false))
      go_wp2_with fail
      go_ret
      exact ⟨congrArg (fun b => Ending.returned (Value.bool b)) hE.out.symm, rfl⟩
def opsL : List ByteArray := [⟨#[43]⟩, ⟨#[45]⟩, ⟨#[42]⟩, ⟨#[47]⟩, ⟨#[61, 61]⟩, ⟨#[33, 61]⟩, ⟨#[60]⟩, ⟨#[60, 61]⟩, ⟨#[97, 110, 100]⟩, ⟨#[111, 114]⟩]
def aggL : List ByteArray := [⟨#[99, 111, 117, 110, 116]⟩, ⟨#[115, 117, 109]⟩, ⟨#[109, 101, 97, 110]⟩, ⟨#[109, 105, 110]⟩, ⟨#[109, 97, 120]⟩, ⟨#[102, 105, 114, 115, 116]⟩, ⟨#[108, 97, 115, 116]⟩, ⟨#[100, 105, 115, 116, 105, 110, 99, 116]⟩, ⟨#[113, 117, 97, 110, 116, 105, 108, 101]⟩, ⟨#[100, 101, 99, 97, 121]⟩]
set_option maxRecDepth 100000 in
theorem operators_any (w : World) : Calls Tryz.prog 172 #[] w fun e w' => ∃ a, e = .returned (.slice a 10 10) ∧ SsV w' a opsL ∧ Below w.heap.size w w' := by
  go_enter Tryz.func172, Tryz.ntmps172
  go_wp2_with fail
  go_ret
  exact ⟨_, rfl, ss_blk (l := opsL) (Blk.new _ _ _), balloc (b0 w) _⟩
set_option maxRecDepth 100000 in
theorem aggregates_r (w : World) : Calls Tryz.prog 147 #[] w fun e w' => ∃ a, e = .returned (.slice a 10 10) ∧ SsV w' a aggL ∧ Below w.heap.size w w' := by
  go_enter Tryz.func147, Tryz.ntmps147
  go_wp2_with fail
  go_ret
  exact ⟨_, rfl, ss_blk (l := aggL) (Blk.new _ _ _), balloc (b0 w) _⟩
set_option maxRecDepth 100000 in
set_option maxHeartbeats 4000000 in
theorem window_any (k n : Int) (w : World) : Calls Tryz.prog 239 #[.agg #[.int .i64 k, .int .i64 n]] w (Bl (winH k n) w) := by
  go_enter Tryz.func239, Tryz.ntmps239
  go_wp2_with fail
  all_goals first
    | (exfalso; simp_all; done)
    | (go_ret; refine bl_of ?_ (balloc (b0 w) _); simp only [eqI] at *; unfold winH; simp_all; done)
    | (go_ret; refine bl_of ?_ (balloc (b0 w) _); simp only [eqI] at *; unfold winH; simp_all; omega)
end Go.Proofs.YtbahfelnbofjjaaGreatDoor.ch
namespace Go.Proofs.YtbahfelnbofjjaaGreatDoor.ch
open Go.RowKit dec

theorem true_e (w : World) : Calls Tryz.prog 48 #[] w fun e w' => e = .returned (.agg (exC truX.h 0 none 0 none 0)) ∧ Below w.heap.size w w' := by
  go_enter Tryz.func48, Tryz.ntmps48
  go_wp2_with fail
  exact ret_X Tryz.results48 _ _ _ _ (exC truX.h 0 none 0 none 0) rfl (Blk.new _ _ _) rfl ⟨rfl, balloc (b0 w) _⟩
def rsxR (h : Hd) (n : Nat) : Bool := flR h truX.h && decide (n = 0)
set_option maxRecDepth 100000 in
set_option maxHeartbeats 4000000 in
theorem sameTrue_any (h : Hd) (n : Nat) (ua aa : Option Addr) (uc ac : Nat) (w : World) (hU : un.Sl w ua h.un.length uc h.un) : Calls Tryz.prog 28 #[.agg (exC h n ua uc aa ac), .agg (exC truX.h 0 none 0 none 0)] w (Bl (rsxR h n) w) := by
  have bb := below_two w (.cells (exC h n ua uc aa ac) 29) (.cells (exC truX.h 0 none 0 none 0) 29)
  have B0 := Lib.hid bb
  have GG := bw_two w (exC h n ua uc aa ac) (exC truX.h 0 none 0 none 0) 29 29
  have G := Lib.hid GG.1
  have H := Lib.hid GG.2
  have S0 := Lib.hid (hU.keeps bb)
  have CF := Lib.hid (fun (W : World) (S : un.Sl W ua h.un.length uc h.un) => (show Calls Tryz.prog 70 #[.agg #[.int .i64 h.k, .string h.op, .string h.nm, .string h.tb, .int .i64 h.vk, .int .i64 h.vn, .string h.vs, .slice ua h.un.length uc, .int .i64 h.pa, .int .i64 h.wk, .int .i64 h.ws, .slice aa n ac], .agg (exC truX.h 0 none 0 none 0)] W (Bl (flR h truX.h) W) from flat_any h truX.h n 0 ua none aa none uc 0 ac 0 W S (un.Sl.nil W)))
  have hE : rsxR h n = (flR h truX.h && decide (n = 0)) := rfl
  replace hE := Lib.hid hE
  clear hU bb GG
  generalize flR h truX.h = R at *
  generalize ht : (exC truX.h 0 none 0 none 0) = tv at *
  have e11 := Lib.hid (show tv[11]? = some (.slice none 0 0) from by rw [← ht]; rfl)
  have esz := Lib.hid (show tv.size = 12 from by rw [← ht]; rfl)
  clear ht
  unfold exC at *
  go_enter Tryz.func28, Tryz.ntmps28
  go_upto_region 1 with fail
  generalize hw0 : ((w.alloc (.cells #[.int .i64 h.k, .string h.op, .string h.nm, .string h.tb, .int .i64 h.vk, .int .i64 h.vn, .string h.vs, .slice ua h.un.length uc, .int .i64 h.pa, .int .i64 h.wk, .int .i64 h.ws, .slice aa n ac] 29)).alloc (.cells tv 29)) = w0 at *
  clear hw0
  generalize hg3 : w.heap.size + 1 = g3 at H ⊢
  generalize hg2 : w.heap.size = g2 at G ⊢
  clear hg2 hg3
  go_wp2_with (first | (refine arm_loadT infX Tryz.underlying29 rfl (.tmp 2) rfl rfl _ _ _ rfl G.out rfl ?_) | (refine arm_loadT infX Tryz.underlying29 rfl (.tmp 3) rfl rfl _ _ _ rfl H.out esz.out ?_))
  refine (CF.out _ S0.out).mono ?_
  rintro e w1 ⟨rfl, b1⟩
  have B1 := Lib.hid (bnext B0.out b1)
  replace G := Lib.hid (G.out.keeps b1)
  replace H := Lib.hid (H.out.keeps b1)
  replace S0 := Lib.hid (S0.out.keeps b1)
  clear b1
  have c11 := G.out.cell 11
  have m11 := H.out.cell 11
  rw [e11.out] at m11
  simp only [List.getElem?_toArray, List.getElem?_cons_zero, List.getElem?_cons_succ] at c11
  clear CF
  cases R
  · go_wp2_with fail
    go_ret
    exact bl_of (by rw [hE.out]; rfl) B1.out
  · by_cases hn : n = 0
    · have q := in_is (show (n : Int) = 0 by omega)
      have q2 : ((n : Int) != 0) = false := by subst hn; rfl
      subst hn
      go_wp2_with fail
      go_loopw [5] (fun vi wr => vi = .int .i64 0 ∧ wr = w1) (fun _ _ => 0)
      case atStart => exact ⟨rfl, rfl⟩
      case round =>
        obtain ⟨rfl, rfl⟩ := hrel
        go_wp2_with fail
        go_ret
        exact bl_of (by rw [hE.out]; rfl) B1.out
    · have q2 : ((n : Int) != 0) = true := by simp [hn]
      have q3 := decide_eq_false hn
      replace hn := Lib.hid hn
      go_wp2_with fail
      go_ret
      exact bl_of (by rw [hE.out, q3]; rfl) B1.out
end Go.Proofs.YtbahfelnbofjjaaGreatDoor.ch
namespace Go.Proofs.YtbahfelnbofjjaaGreatDoor.ch
open Go.RowKit dec

/-- Equal expressions, as the reference finds them. -/
def sxF : Fo → Fo → Bool
  | .nil, .nil => true
  | .cons h ar r, .cons g br s => (flR h g && (decide (ar.len = br.len) && sxF ar br)) && sxF r s
  | _, _ => false
def sxE (x y : Ex) : Bool := flR x.h y.h && (decide (x.ar.len = y.ar.len) && sxF x.ar y.ar)
theorem flR_iff {h g : Hd} : flR h g = true ↔ h = g := by
  unfold flR
  rw [Bool.and_eq_true, decide_eq_true_eq]
  constructor
  · rintro ⟨a, b⟩
    exact hd_eq a b
  · rintro rfl
    exact ⟨rfl, by unfold same; simp⟩
theorem sxF_iff : ∀ F G : Fo, sxF F G = true ↔ F = G
  | .nil, .nil => ⟨fun _ => rfl, fun _ => rfl⟩
  | .nil, .cons a b c => ⟨fun h => by simp [sxF] at h, fun h => by cases h⟩
  | .cons a b c, .nil => ⟨fun h => by simp [sxF] at h, fun h => by cases h⟩
  | .cons h ar r, .cons g br s => by
    simp only [sxF, Bool.and_eq_true, decide_eq_true_eq]
    rw [flR_iff, sxF_iff ar br, sxF_iff r s]
    constructor
    · rintro ⟨⟨rfl, _, rfl⟩, rfl⟩
      rfl
    · intro e
      cases e
      exact ⟨⟨rfl, rfl, rfl⟩, rfl⟩
theorem sxE_iff {x y : Ex} : sxE x y = true ↔ x = y := by
  unfold sxE
  rw [Bool.and_eq_true, Bool.and_eq_true, decide_eq_true_eq, flR_iff, sxF_iff]
  constructor
  · rintro ⟨h, _, e⟩
    cases x; cases y
    simp only at h e
    subst h e
    rfl
  · rintro rfl
    exact ⟨rfl, rfl, rfl⟩
theorem sxF_at {F G : Fo} {j : Nat} (hF : j < F.len) (hG : j < G.len) : sxF (F.drop j) (G.drop j) = (sxE (F.nth j) (G.nth j) && sxF (F.drop (j + 1)) (G.drop (j + 1))) := by
  rw [drop_nth F j hF, drop_nth G j hG]
  rfl
set_option maxRecDepth 100000 in
set_option maxHeartbeats 8000000 in
theorem sameX_step (n : Nat) (IH : ∀ (x y : Ex) (ua aa ub ab : Option Addr) (uc ac ud ad : Nat) (w : World), x.ar.sz < n → Ec w x ua uc aa ac → Ec w y ub ud ab ad → Calls Tryz.prog 28 #[.agg (exC x.h x.ar.len ua uc aa ac), .agg (exC y.h y.ar.len ub ud ab ad)] w (Bl (sxE x y) w))
    (x y : Ex) (ua aa ub ab : Option Addr) (uc ac ud ad : Nat) (w : World) (hz : x.ar.sz = n) (hA : Ec w x ua uc aa ac) (hB : Ec w y ub ud ab ad) : Calls Tryz.prog 28 #[.agg (exC x.h x.ar.len ua uc aa ac), .agg (exC y.h y.ar.len ub ud ab ad)] w (Bl (sxE x y) w) := by
  have bb := below_two w (.cells (exC x.h x.ar.len ua uc aa ac) 29) (.cells (exC y.h y.ar.len ub ud ab ad) 29)
  have B0 := Lib.hid bb
  have GG := bw_two w (exC x.h x.ar.len ua uc aa ac) (exC y.h y.ar.len ub ud ab ad) 29 29
  have G := Lib.hid GG.1
  have H := Lib.hid GG.2
  have HA := Lib.hid (hA.keeps bb)
  have HB := Lib.hid (hB.keeps bb)
  have IH' := Lib.hid IH
  have HZ := Lib.hid hz
  have CF := Lib.hid (fun (W : World) (S : Ec W x ua uc aa ac) (R : Ec W y ub ud ab ad) => flat_any x.h y.h x.ar.len y.ar.len ua ub aa ab uc ud ac ad W S.us R.us)
  have hmax := Lib.hid (show x.ar.len ≤ 9223372036854775807 from by have := hA.ar.hcap; have := hA.ar.hmax; omega)
  have hE := Lib.hid (show sxE x y = (flR x.h y.h && (decide (x.ar.len = y.ar.len) && sxF x.ar y.ar)) from rfl)
  clear bb hA hB IH hz GG
  go_enter Tryz.func28, Tryz.ntmps28
  go_upto_region 1 with fail
  generalize hw0 : ((w.alloc (.cells (exC x.h x.ar.len ua uc aa ac) 29)).alloc (.cells (exC y.h y.ar.len ub ud ab ad) 29)) = w0 at *
  generalize hg3 : w.heap.size + 1 = g3 at H ⊢
  generalize hg2 : w.heap.size = g2 at G ⊢
  clear hw0 hg2 hg3
  generalize flR x.h y.h = R at *
  go_wp2_with (first | (refine arm_loadT infX Tryz.underlying29 rfl (.tmp 2) rfl rfl _ _ _ rfl G.out rfl ?_) | (refine arm_loadT infX Tryz.underlying29 rfl (.tmp 3) rfl rfl _ _ _ rfl H.out rfl ?_))
  refine (CF.out _ HA.out HB.out).mono ?_
  rintro e w1 ⟨rfl, b1⟩
  have B1 := Lib.hid (bnext B0.out b1)
  replace G := Lib.hid (G.out.keeps b1)
  replace H := Lib.hid (H.out.keeps b1)
  replace HA := Lib.hid (HA.out.keeps b1)
  replace HB := Lib.hid (HB.out.keeps b1)
  clear b1
  clear CF
  have c11 := G.out.cell 11
  have d11 := H.out.cell 11
  simp only [exC, List.getElem?_toArray, List.getElem?_cons_zero, List.getElem?_cons_succ] at c11 d11
  cases R
  · go_wp2_with fail
    go_ret
    exact bl_of (by rw [hE.out]; rfl) B1.out
  · by_cases hn : x.ar.len = y.ar.len
    · have q2 : ((x.ar.len : Int) != (y.ar.len : Int)) = false := by simp [hn]
      have hE2 : sxE x y = sxF x.ar y.ar := by rw [hE.out, decide_eq_true hn]; rfl
      replace hE2 := Lib.hid hE2
      replace hn := Lib.hid hn
      clear hE
      go_wp2_with fail
      go_loopw [5] (fun vi wr => ∃ j : Nat, vi = .int .i64 (j : Nat) ∧ Hid (j ≤ x.ar.len) ∧ Hid (sxF x.ar y.ar = sxF (x.ar.drop j) (y.ar.drop j)) ∧ Hid (Below w1.heap.size w1 wr)) (fun vi _ => x.ar.len - (intOf vi).toNat)
      case atStart => exact ⟨0, rfl, Lib.hid (Nat.zero_le _), Lib.hid (by rw [drop_zero, drop_zero]), Lib.hid (b0 w1)⟩
      case round =>
        clear c11 d11
        obtain ⟨j, rfl, hj, hR, hb⟩ := hrel
        have Bw := Lib.hid (bnext B1.out hb.out)
        replace G := Lib.hid (G.out.keeps hb.out)
        replace H := Lib.hid (H.out.keeps hb.out)
        replace HA := Lib.hid (HA.out.keeps hb.out)
        replace HB := Lib.hid (HB.out.keeps hb.out)
        have c11 := G.out.cell 11
        simp only [exC, List.getElem?_toArray, List.getElem?_cons_zero, List.getElem?_cons_succ] at c11
        by_cases hlt : j < x.ar.len
        · have hlb : j < y.ar.len := by have := hn.out; omega
          have q1 : decide ((j : Int) < (x.ar.len : Int)) = true := decide_eq_true (by omega)
          have i1 : (j : Int) < (x.ar.len : Int) := by omega
          have i2 : (j : Int) < (y.ar.len : Int) := by omega
          have f4 := Lib.hid (next_at (j := j) (by have := hmax.out; omega))
          obtain ⟨bk, off, va, va2, vc, vc2, rfl, R1, E1⟩ := HA.out.ar.at hlt
          obtain ⟨bl, ofg, wa, wa2, wc, wc2, rfl, R2, E2⟩ := HB.out.ar.at hlb
          replace R1 := Lib.hid R1
          replace E1 := Lib.hid E1
          replace R2 := Lib.hid R2
          replace E2 := Lib.hid E2
          have hR2 := Lib.hid (hR.out.trans (sxF_at hlt hlb))
          have hsz := Lib.hid (nth_sz x.ar j hlt)
          have hlt2 := Lib.hid hlt
          clear HA HB hj hlb
          generalize hy : x.ar.nth j = p at *
          generalize hz : y.ar.nth j = q at *
          clear hy hz
          go_upto_region 6 with fail
          clear c11
          go_cut [37] from 26 to 37 (fun v wx => v = .bool (!sxE p q) ∧ Hid (Below wr.heap.size wr wx))
          case first =>
            refine wp_region_held_drew (S := fun w' => Below wr.heap.size wr w') (by kernel_rfl) (b0 wr).drew (fun hH => ?_)
            refine held_take (i := 0) (d := 26) (v := ?_) rfl (by kernel_rfl) (by kernel_rfl) (by kernel_rfl) rfl (fun _ _ _ h => h) rfl hH (fun w' hS => ?_) ?_
            rotate_left
            · go_simp; first | done | with_reducible rfl
            simp only [List.set_cons_zero, List.set_cons_succ]
            refine held_take (i := 1) (d := 27) (v := ?_) rfl (by kernel_rfl) (by kernel_rfl) (by kernel_rfl) rfl (fun _ _ _ h => h) rfl hH (fun w' hS => ?_) ?_
            rotate_left
            · have m11 := (G.out.keeps hS).cell 11; simp only [exC, List.getElem?_toArray, List.getElem?_cons_zero, List.getElem?_cons_succ] at m11; go_simp; first | done | with_reducible rfl
            simp only [List.set_cons_zero, List.set_cons_succ]
            refine held_take (i := 2) (d := 28) (v := ?_) rfl (by kernel_rfl) (by kernel_rfl) (by kernel_rfl) rfl (fun _ _ _ h => h) rfl hH (fun w' hS => ?_) ?_
            rotate_left
            · go_simp; first | done | with_reducible rfl
            simp only [List.set_cons_zero, List.set_cons_succ]
            refine held_take (i := 3) (d := 29) (v := ?_) rfl (by kernel_rfl) (by kernel_rfl) (by kernel_rfl) rfl (fun _ _ _ h => h) rfl hH (fun w' hS => ?_) ?_
            rotate_left
            · go_simp; first | done | with_reducible rfl
            simp only [List.set_cons_zero, List.set_cons_succ]
            refine held_take (i := 4) (d := 30) (v := .agg (exC p.h p.ar.len va va2 vc vc2)) rfl (by kernel_rfl) (by kernel_rfl) (by kernel_rfl) rfl (fun _ _ _ h => h) rfl hH (fun w' hS => yield_loadM infX Tryz.underlying29 rfl (.tmp 29) rfl bk (off + j * 12) (exC p.h p.ar.len va va2 vc vc2) rfl (range_keeps R1.out hS) rfl) ?_
            simp only [List.set_cons_zero, List.set_cons_succ]
            refine held_take (i := 5) (d := 31) (v := ?_) rfl (by kernel_rfl) (by kernel_rfl) (by kernel_rfl) rfl (fun _ _ _ h => h) rfl hH (fun w' hS => ?_) ?_
            rotate_left
            · go_simp; first | done | with_reducible rfl
            simp only [List.set_cons_zero, List.set_cons_succ]
            refine held_take (i := 6) (d := 32) (v := ?_) rfl (by kernel_rfl) (by kernel_rfl) (by kernel_rfl) rfl (fun _ _ _ h => h) rfl hH (fun w' hS => ?_) ?_
            rotate_left
            · have m11 := (H.out.keeps hS).cell 11; simp only [exC, List.getElem?_toArray, List.getElem?_cons_zero, List.getElem?_cons_succ] at m11; go_simp; first | done | with_reducible rfl
            simp only [List.set_cons_zero, List.set_cons_succ]
            refine held_take (i := 7) (d := 33) (v := ?_) rfl (by kernel_rfl) (by kernel_rfl) (by kernel_rfl) rfl (fun _ _ _ h => h) rfl hH (fun w' hS => ?_) ?_
            rotate_left
            · go_simp; first | done | with_reducible rfl
            simp only [List.set_cons_zero, List.set_cons_succ]
            refine held_take (i := 8) (d := 34) (v := ?_) rfl (by kernel_rfl) (by kernel_rfl) (by kernel_rfl) rfl (fun _ _ _ h => h) rfl hH (fun w' hS => ?_) ?_
            rotate_left
            · go_simp; first | done | with_reducible rfl
            simp only [List.set_cons_zero, List.set_cons_succ]
            refine held_take (i := 9) (d := 35) (v := .agg (exC q.h q.ar.len wa wa2 wc wc2)) rfl (by kernel_rfl) (by kernel_rfl) (by kernel_rfl) rfl (fun _ _ _ h => h) rfl hH (fun w' hS => yield_loadM infX Tryz.underlying29 rfl (.tmp 34) rfl bl (ofg + j * 12) (exC q.h q.ar.len wa wa2 wc wc2) rfl (range_keeps R2.out hS) rfl) ?_
            simp only [List.set_cons_zero, List.set_cons_succ]
            generalize wr.drew = yy at *
            refine held_only (i := 10) rfl (by kernel_rfl) rfl (fun K hK => ?_)
            go_simp
            refine (IH'.out p q va vc wa wc va2 vc2 wa2 wc2 _ (by have := hsz.out; have := HZ.out; omega) (E1.out.keeps hH) (E2.out.keeps hH)).mono ?_
            rintro e y71 ⟨rfl, b71⟩
            skip
            refine hK.out _ _ (bnext hH b71) (fun hH => ?_)
            clear hK K
            clear b71
            refine held_take (i := 11) (d := 37) (v := ?_) rfl (by kernel_rfl) (by kernel_rfl) (by kernel_rfl) rfl (fun _ _ _ h => h) rfl hH (fun w' hS => ?_) ?_
            rotate_left
            · go_simp; first | done | with_reducible rfl
            simp only [List.set_cons_zero, List.set_cons_succ]
            refine wpAnyH_done (by kernel_rfl) ?_ _
            go_wp2_with fail
            go_meet
            case rel => exact ⟨rfl, Lib.hid hH⟩
          case rest =>
            obtain ⟨rfl, BW⟩ := hcut
            have Bx := Lib.hid (bnext Bw.out BW.out)
            have hb6 := Lib.hid (bnext hb.out BW.out)
            clear BW
            generalize sxE p q = fy at *
            cases fy
            · go_wp2_with fail
              go_ret
              exact bl_of (by rw [hE2.out, hR2.out, Bool.false_and]) Bx.out
            · go_wp2_with fail
              exact ⟨⟨j + 1, congrArg (Value.int .i64) f4.out, hlt2, Lib.hid (hR2.out.trans (Bool.true_and _)), hb6⟩, less_at hlt2.out f4.out⟩
        · have q1 : decide ((j : Int) < (x.ar.len : Int)) = false := decide_eq_false (by omega)
          have hT := Lib.hid (show sxF x.ar y.ar = true from by rw [hR.out, drop_end _ _ (by omega), drop_end _ _ (by have := hn.out; omega)]; rfl)
          clear hR
          go_wp2_with fail
          go_ret
          exact bl_of (by rw [hE2.out, hT.out]) Bw.out
    · have q2 : ((x.ar.len : Int) != (y.ar.len : Int)) = true := by simp; omega
      have q3 := decide_eq_false hn
      replace hn := Lib.hid hn
      go_wp2_with fail
      go_ret
      exact bl_of (by rw [hE.out, q3]; rfl) B1.out
theorem sameX_any (x y : Ex) (ua aa ub ab : Option Addr) (uc ac ud ad : Nat) (w : World) (hA : Ec w x ua uc aa ac) (hB : Ec w y ub ud ab ad) : Calls Tryz.prog 28 #[.agg (exC x.h x.ar.len ua uc aa ac), .agg (exC y.h y.ar.len ub ud ab ad)] w (Bl (sxE x y) w) := by
  have key : ∀ n, ∀ (x y : Ex) (ua aa ub ab : Option Addr) (uc ac ud ad : Nat) (w : World), x.ar.sz < n → Ec w x ua uc aa ac → Ec w y ub ud ab ad → Calls Tryz.prog 28 #[.agg (exC x.h x.ar.len ua uc aa ac), .agg (exC y.h y.ar.len ub ud ab ad)] w (Bl (sxE x y) w) := by
    intro n
    induction n with
    | zero => intro x y ua aa ub ab uc ac ud ad w h; exact absurd h (Nat.not_lt_zero _)
    | succ n ih =>
      intro x y ua aa ub ab uc ac ud ad w h hA hB
      exact sameX_step x.ar.sz (fun x' y' ua' aa' ub' ab' uc' ac' ud' ad' w' h' => ih x' y' ua' aa' ub' ab' uc' ac' ud' ad' w' (by omega)) x y ua aa ub ab uc ac ud ad w rfl hA hB
  exact key _ x y ua aa ub ab uc ac ud ad w (Nat.lt_succ_self _) hA hB
end Go.Proofs.YtbahfelnbofjjaaGreatDoor.ch
namespace Go.Proofs.YtbahfelnbofjjaaGreatDoor.un
open Go.RowKit dec

theorem wf_false {c : Int} (h1 : ¬ (97 ≤ c ∧ c ≤ 122)) (h2 : ¬ (48 ≤ c ∧ c ≤ 57)) (h3 : ¬ c = 95) : (lett c || (digi c || decide (c = 95))) = false := by
  unfold lett digi
  rw [decide_eq_false h1, decide_eq_false h2, decide_eq_false h3]
  rfl
theorem wf_true {c : Int} (h : (97 ≤ c ∧ c ≤ 122) ∨ (48 ≤ c ∧ c ≤ 57) ∨ c = 95) : (lett c || (digi c || decide (c = 95))) = true := by
  unfold lett digi
  rcases h with h | h | h
  · rw [decide_eq_true h]; rfl
  · rw [decide_eq_true h]; simp
  · rw [decide_eq_true h]; simp
set_option maxHeartbeats 2000000 in
theorem rword_any (s : ByteArray) (w : World) : Calls Tryz.prog 127 #[.string s] w fun e w' => e = .returned (.bool (word s)) ∧ w = w' := by
  by_cases h0 : s.size = 0
  · rw [word_none s h0]
    have q1 : decide ((s.size : Int) < 1) = true := decide_eq_true (by omega)
    go_enter Tryz.func127, Tryz.ntmps127
    go_wp2_with fail
    go_ret
    exact ⟨rfl, rfl⟩
  · have h0' : 0 < s.size := by omega
    have hw := word_is s h0'
    have q1 : decide ((s.size : Int) < 1) = false := decide_eq_false (by omega)
    by_cases h24 : s.size ≤ 24
    · have q2 : decide (24 < (s.size : Int)) = false := decide_eq_false (by omega)
      rw [decide_eq_true h24, Bool.true_and] at hw
      have hS := Lib.hid h24
      clear h24
      generalize hK : ((s[0].toNat : Nat) : Int) = d at hw
      cases hl : lett d
      · rw [hl, Bool.false_and] at hw
        rw [hw]
        unfold lett at hl
        rw [decide_eq_false_iff_not] at hl
        by_cases p1 : d < 97
        · have q3 : decide (d < 97) = true := decide_eq_true p1
          clear hl p1
          go_enter Tryz.func127, Tryz.ntmps127
          go_wp2_with fail
          go_ret
          exact ⟨rfl, rfl⟩
        · have q3 : decide (d < 97) = false := decide_eq_false p1
          have q4 : decide (122 < d) = true := decide_eq_true (by omega)
          clear hl p1
          go_enter Tryz.func127, Tryz.ntmps127
          go_wp2_with fail
          go_ret
          exact ⟨rfl, rfl⟩
      · rw [hl, Bool.true_and] at hw
        have H := Lib.hid hw
        unfold lett at hl
        rw [decide_eq_true_eq] at hl
        have q3 : decide (d < 97) = false := decide_eq_false (by omega)
        have q4 : decide (122 < d) = false := decide_eq_false (by omega)
        clear hw hl
        go_enter Tryz.func127, Tryz.ntmps127
        go_wp2_with fail
        go_loopw [3] (fun vi wr => ∃ j : Nat, vi = .int .i64 (j : Nat) ∧ j ≤ s.size ∧ Hid (word s = (s.data.toList.drop j).all wch) ∧ w = wr) (fun vi _ => s.size - (intOf vi).toNat)
        case atStart => exact ⟨0, rfl, by omega, H, rfl⟩
        case round =>
          obtain ⟨j, rfl, hj, hd, rfl⟩ := hrel
          clear H
          by_cases hc : j < s.size
          · have hst := hd.out
            rw [wch_at s hc, wch_is] at hst
            have q5 : decide ((j : Int) < (s.size : Int)) = true := decide_eq_true (by omega)
            have f4 := Lib.hid (next_at (j := j) (by have := hS.out; omega))
            generalize hJ : ((s[j].toNat : Nat) : Int) = c at hst
            have H := Lib.hid hst
            clear hd hst q1 q2 q3 q4 hK
            go_wp2_with fail
            all_goals first
              | (go_ret; refine ⟨ret_bool ?_, rfl⟩; rw [H.out, wf_false (by omega) (by omega) (by first | omega | simp_all), Bool.false_and])
              | (refine ⟨⟨j + 1, congrArg (Value.int .i64) f4.out, hc, Lib.hid ?_, trivial⟩, less_at hc f4.out⟩; rw [H.out, wf_true (by first | omega | (simp_all; done) | (simp_all; omega)), Bool.true_and])
          · have hst := hd.out
            rw [wch_end s (by omega)] at hst
            have H := Lib.hid hst
            clear hst hd
            have q3 : decide ((j : Int) < (s.size : Int)) = false := decide_eq_false (by omega)
            go_wp2_with fail
            go_ret
            exact ⟨ret_bool H.out.symm, rfl⟩
    · rw [decide_eq_false h24, Bool.false_and] at hw
      have q2 : decide (24 < (s.size : Int)) = true := decide_eq_true (by omega)
      rw [hw]
      go_enter Tryz.func127, Tryz.ntmps127
      go_wp2_with fail
      go_ret
      exact ⟨rfl, rfl⟩
end Go.Proofs.YtbahfelnbofjjaaGreatDoor.un
namespace Go.Proofs.YtbahfelnbofjjaaGreatDoor.un
open Go.RowKit dec

theorem less_dl0 {n d : Nat} (hd : d < n) : n - (intOf (Value.int .i64 ((d : Int) + 1))).toNat < n - (intOf (Value.int .i64 (d : Int))).toNat := by
  have h := hd
  show n - (((d : Int) + 1)).toNat < n - ((d : Nat) : Int).toNat
  omega
theorem ck_at {l : List Fa} {j : Nat} (_ : j < l.length) : ck1 .empty (gt l j) = 0 ∨ word (gt l j).1 = false ∨ ((gt l j).2 = 0 ∨ far (gt l j).2 = true) := by
  cases hw : word (gt l j).1
  · exact .inr (.inl rfl)
  · by_cases h2 : (gt l j).2 = 0 ∨ far (gt l j).2 = true
    · exact .inr (.inr h2)
    · refine .inl (ck1_of hw (fun e => h2 (.inl e)) (by simpa using fun e => h2 (.inr e)) ?_)
      rw [ltS_empty]
      have := word_size hw
      exact decide_eq_true (by omega)
theorem wrap_at {i : Nat} (h : i < 9223372036854775807) : wrap64 ((i : Nat) : Int) = ((i : Nat) : Int) := by unfold wrap64; omega
theorem prev_at {i : Nat} (h : i < 9223372036854775807) : wrap64 (((i + 1 : Nat) : Int) - 1) = ((i : Nat) : Int) := by unfold wrap64; omega
/-- The name before the place j. -/
def bef (l : List Fa) (j : Nat) : ByteArray := if j = 0 then .empty else (gt l (j - 1)).1
set_option maxRecDepth 100000 in
set_option maxHeartbeats 2000000 in
theorem rcheck_any (a : Option Addr) (n cap : Nat) (l : List Fa) (w : World) (hS : Sl w a n cap l) :
    Calls Tryz.prog 72 #[.slice a n cap] w fun e w' => e = .returned (.int .i64 (ck l)) ∧ Below w.heap.size w w' := by
  have W1 := Lib.hid rword_any
  have R1 := Lib.hid far_any
  have hck : ck l = if 4 < n then 2 else ckFrom .empty (l.drop 0) := by rw [List.drop_zero, ← hS.hn]; rfl
  have S0 := Lib.hid hS
  clear hS
  by_cases h4 : 4 < n
  · rw [hck, if_pos h4]
    have q1 : decide (4 < (n : Int)) = true := decide_eq_true (by omega)
    clear W1 R1 S0 hck
    go_enter Tryz.func72, Tryz.ntmps72
    go_wp2_with fail
    go_ret
    exact ⟨rfl, b0 w⟩
  · rw [if_neg h4] at hck
    rw [hck]
    have hn := Lib.hid (Nat.le_of_not_lt h4)
    have q1 : decide (4 < (n : Int)) = false := decide_eq_false (by omega)
    clear h4 hck
    go_enter Tryz.func72, Tryz.ntmps72
    go_wp2_with fail
    go_loopw [3] (fun vi wr => ∃ j : Nat, vi = .int .i64 (j : Nat) ∧ Hid (j ≤ n) ∧ Hid (ckFrom .empty (l.drop 0) = ckFrom (bef l j) (l.drop j)) ∧ Hid (Below w.heap.size w wr)) (fun vi _ => n - (intOf vi).toNat)
    case atStart => exact ⟨0, rfl, Lib.hid (by omega), Lib.hid rfl, Lib.hid (b0 w)⟩
    case round =>
      obtain ⟨j, rfl, hj, hd, hb⟩ := hrel
      by_cases hc : j < n
      · have hln := Lib.hid (show j < l.length by have := S0.out.hn; omega)
        have hst := hd.out
        rw [ck_drop hln.out (bef l j)] at hst
        obtain ⟨bk, off, rfl, hC⟩ := (S0.out.keeps hb.out).hat.resolve_left (by have := hln.out; omega)
        obtain ⟨c0, c1⟩ := hC j hln.out
        have q2 : decide ((j : Int) < (n : Int)) = true := decide_eq_true (by omega)
        have q3 : j < n := hc
        have f4 := Lib.hid (next_at (j := j) (by have := hn.out; omega))
        have hbn := Lib.hid (show bef l (j + 1) = (gt l j).1 from rfl)
        have hca := Lib.hid (ck_at hln.out)
        have H := Lib.hid hst
        clear hd hst
        rcases Nat.eq_zero_or_pos j with h0 | h0
        · have hbe := Lib.hid (show bef l j = .empty by rw [h0]; rfl)
          have q6 : decide ((0 : Int) < (j : Int)) = false := decide_eq_false (by omega)
          have q7 : decide (0 < j) = false := decide_eq_false (by omega)
          generalize bef l j = bb at *
          generalize gt l j = x at *
          clear hC h0
          cases hw : word x.1
          · have hk : ck1 .empty x = 1 := by unfold ck1; rw [if_pos hw]
            replace hk := Lib.hid hk
            go_wp2_with fail
            refine (W1.out _ _).mono ?_
            rintro e w' ⟨rfl, rfl⟩
            go_wp2_with fail
            go_ret
            exact ⟨ret_int (by rw [H.out, hbe.out, if_neg (by rw [hk.out]; decide), hk.out]), hb.out⟩
          · by_cases hz : x.2 = 0
            · have hk : ck1 .empty x = 70 := by unfold ck1; rw [hw, if_neg (by decide), if_pos (.inl hz)]
              have q4 : (x.2 == 0) = true := beq_iff_eq.2 hz
              replace hk := Lib.hid hk
              replace hz := Lib.hid hz
              go_wp2_with fail
              refine (W1.out _ _).mono ?_
              rintro e w' ⟨rfl, rfl⟩
              go_wp2_with fail
              go_ret
              exact ⟨ret_int (by rw [H.out, hbe.out, if_neg (by rw [hk.out]; decide), hk.out]), hb.out⟩
            · have q4 : (x.2 == 0) = false := beq_eq_false_iff_ne.2 hz
              cases hf : far x.2
              · have hk := Lib.hid (show ck1 .empty x = 0 from hca.out.resolve_right (by rintro (h | h | h) <;> simp_all))
                replace hz := Lib.hid hz
                go_wp2_with fail
                refine (W1.out _ _).mono ?_
                rintro e w' ⟨rfl, rfl⟩
                go_wp2_with fail
                refine (R1.out _ _).mono ?_
                rintro e w' ⟨rfl, rfl⟩
                go_wp2_with fail
                have c0r := cell_regrown c0
                clear c0 c1
                refine wp_region_quiet_below (by kernel_rfl) (by kernel_rfl) ?_
                repeat (first | go_big_quiet_skip | (go_big_quiet_want; go_big_quiet_op; go_big_quiet_on))
                refine wpQuiet_nil ?_
                intro w9 hw9
                have hb2 := Lib.hid (bnext hb.out (below_of hw9))
                clear hw9
                go_wp2_with fail
                refine ⟨⟨j + 1, by first | exact congrArg (Value.int .i64) f4.out | rfl, Lib.hid hc, Lib.hid (by rw [H.out, hbe.out, if_pos hk.out, hbn.out]), Lib.hid hb2.out⟩, by first | exact less_at hc f4.out | exact less_dl0 hc⟩
              · have hk : ck1 .empty x = 70 := by unfold ck1; rw [hw, hf, if_neg (by decide), if_pos (.inr rfl)]
                replace hk := Lib.hid hk
                replace hz := Lib.hid hz
                go_wp2_with fail
                refine (W1.out _ _).mono ?_
                rintro e w' ⟨rfl, rfl⟩
                go_wp2_with fail
                refine (R1.out _ _).mono ?_
                rintro e w' ⟨rfl, rfl⟩
                go_wp2_with fail
                go_ret
                exact ⟨ret_int (by rw [H.out, hbe.out, if_neg (by rw [hk.out]; decide), hk.out]), hb.out⟩
        · obtain ⟨i, rfl⟩ : ∃ i, j = i + 1 := ⟨j - 1, by omega⟩
          have hbe := Lib.hid (show bef l (i + 1) = (gt l i).1 from rfl)
          obtain ⟨d0, d1⟩ := hC i (by have := hln.out; omega)
          have q6 : decide ((0 : Int) < ((i + 1 : Nat) : Int)) = true := decide_eq_true (by omega)
          have q9 : i < n := by omega
          have f9 := wrap_at (i := i) (by have := hn.out; omega)
          have q8 := le_is (gt l (i + 1)).1 (gt l i).1
          generalize gt l (i + 1) = x at *
          generalize (gt l i).1 = b at *
          generalize bef l (i + 1) = bb at *
          clear hC h0 hca
          cases hw : word x.1
          · have hk : ck1 b x = 1 := by unfold ck1; rw [if_pos hw]
            replace hk := Lib.hid hk
            go_wp2_with fail
            refine (W1.out _ _).mono ?_
            rintro e w' ⟨rfl, rfl⟩
            go_wp2_with fail
            go_ret
            exact ⟨ret_int (by rw [H.out, hbe.out, if_neg (by rw [hk.out]; decide), hk.out]), hb.out⟩
          · by_cases hz : x.2 = 0
            · have hk : ck1 b x = 70 := by unfold ck1; rw [hw, if_neg (by decide), if_pos (.inl hz)]
              have q4 : (x.2 == 0) = true := beq_iff_eq.2 hz
              replace hk := Lib.hid hk
              replace hz := Lib.hid hz
              go_wp2_with fail
              refine (W1.out _ _).mono ?_
              rintro e w' ⟨rfl, rfl⟩
              go_wp2_with fail
              go_ret
              exact ⟨ret_int (by rw [H.out, hbe.out, if_neg (by rw [hk.out]; decide), hk.out]), hb.out⟩
            · have q4 : (x.2 == 0) = false := beq_eq_false_iff_ne.2 hz
              cases hf : far x.2
              · cases hl : Op.bytesLess b.toList x.1.toList
                · have hk : ck1 b x = 3 := by unfold ck1 ltS; rw [hw, hf, hl, if_neg (by decide), if_neg (by simp [hz]), if_neg (by decide)]
                  replace hk := Lib.hid hk
                  replace hz := Lib.hid hz
                  rw [hl, Bool.not_false] at q8
                  go_wp2_with fail
                  refine (W1.out _ _).mono ?_
                  rintro e w' ⟨rfl, rfl⟩
                  go_wp2_with fail
                  refine (R1.out _ _).mono ?_
                  rintro e w' ⟨rfl, rfl⟩
                  go_wp2_with fail
                  have c0r := cell_regrown c0
                  have d0r := cell_regrown d0
                  clear c0 c1 d0 d1
                  refine wp_region_quiet_below (by kernel_rfl) (by kernel_rfl) ?_
                  repeat (first | go_big_quiet_skip | (go_big_quiet_want; go_big_quiet_op; go_big_quiet_on))
                  refine wpQuiet_nil ?_
                  intro w9 hw9
                  have hb2 := Lib.hid (bnext hb.out (below_of hw9))
                  clear hw9
                  go_wp2_with fail
                  go_ret
                  exact ⟨ret_int (by rw [H.out, hbe.out, if_neg (by rw [hk.out]; decide), hk.out]), hb2.out⟩
                · have hk : ck1 b x = 0 := by unfold ck1 ltS; rw [hw, hf, hl, if_neg (by decide), if_neg (by simp [hz]), if_pos rfl]
                  replace hk := Lib.hid hk
                  replace hz := Lib.hid hz
                  rw [hl, Bool.not_true] at q8
                  go_wp2_with fail
                  refine (W1.out _ _).mono ?_
                  rintro e w' ⟨rfl, rfl⟩
                  go_wp2_with fail
                  refine (R1.out _ _).mono ?_
                  rintro e w' ⟨rfl, rfl⟩
                  go_wp2_with fail
                  have c0r := cell_regrown c0
                  have d0r := cell_regrown d0
                  clear c0 c1 d0 d1
                  refine wp_region_quiet_below (by kernel_rfl) (by kernel_rfl) ?_
                  repeat (first | go_big_quiet_skip | (go_big_quiet_want; go_big_quiet_op; go_big_quiet_on))
                  refine wpQuiet_nil ?_
                  intro w9 hw9
                  have hb2 := Lib.hid (bnext hb.out (below_of hw9))
                  clear hw9
                  go_wp2_with fail
                  refine ⟨⟨i + 1 + 1, by first | exact congrArg (Value.int .i64) f4.out | rfl, Lib.hid hc, Lib.hid (by rw [H.out, hbe.out, if_pos hk.out, hbn.out]), Lib.hid hb2.out⟩, by first | exact less_at hc f4.out | exact less_dl0 hc⟩
              · have hk : ck1 b x = 70 := by unfold ck1; rw [hw, hf, if_neg (by decide), if_pos (.inr rfl)]
                replace hk := Lib.hid hk
                replace hz := Lib.hid hz
                go_wp2_with fail
                refine (W1.out _ _).mono ?_
                rintro e w' ⟨rfl, rfl⟩
                go_wp2_with fail
                refine (R1.out _ _).mono ?_
                rintro e w' ⟨rfl, rfl⟩
                go_wp2_with fail
                go_ret
                exact ⟨ret_int (by rw [H.out, hbe.out, if_neg (by rw [hk.out]; decide), hk.out]), hb.out⟩
      · have H := Lib.hid (show ckFrom .empty (l.drop 0) = 0 by rw [hd.out, ck_end (by have := S0.out.hn; omega)])
        have q3 : decide ((j : Int) < (n : Int)) = false := decide_eq_false (by omega)
        clear hd
        go_wp2_with fail
        go_ret
        exact ⟨ret_int H.out.symm, hb.out⟩
end Go.Proofs.YtbahfelnbofjjaaGreatDoor.un
namespace Go.Proofs.YtbahfelnbofjjaaGreatDoor.ch
open Go.RowKit dec

set_option maxRecDepth 100000 in
set_option maxHeartbeats 2000000 in
theorem rtype_any (t : Ty) (ua : Option Addr) (uc : Nat) (w : World) (hA : un.Sl w ua t.un.length uc t.un) :
    Calls Tryz.prog 29 #[.agg (tyC t ua uc)] w (Num (tyE t) w) := by
  have bb := balloc (b0 w) (.cells (tyC t ua uc) 31)
  have B0 := Lib.hid bb
  have G := Lib.hid (Blk.new w 31 (tyC t ua uc))
  have S0 := Lib.hid (hA.keeps bb)
  have hE : tyE t = tyE t := rfl
  conv at hE => rhs; unfold tyE
  replace hE := Lib.hid hE
  have hL := Lib.hid (show t.un.length ≤ 9223372036854775807 by have := hA.hcap; have := hA.hmax; omega)
  have CN := Lib.hid (fun W => rname_any t.of W)
  have CU := Lib.hid (fun W S => un.rcheck_any ua t.un.length uc t.un W S)
  have CM := Lib.hid rname_any
  have CI := Lib.hid (fun W => rNumber_any t ua uc W)
  clear hA bb
  unfold tyC at *
  by_cases h1 : t.k < 1
  · have q1 : decide (t.k < 1) = true := decide_eq_true h1
    replace hE := hE.out
    rw [if_pos (.inl h1)] at hE
    replace hE := Lib.hid hE
    clear CN CU CI
    go_enter Tryz.func29, Tryz.ntmps29
    go_wp2_with fail
    go_ret
    exact nu_of (by rw [hE.out]) B0.out
  · have q1 : decide (t.k < 1) = false := decide_eq_false h1
    by_cases h2 : 5 < t.k
    · have q2 : decide (5 < t.k) = true := decide_eq_true h2
      replace hE := hE.out
      rw [if_pos (.inr h2)] at hE
      replace hE := Lib.hid hE
      clear CN CU CI
      go_enter Tryz.func29, Tryz.ntmps29
      go_wp2_with fail
      go_ret
      exact nu_of (by rw [hE.out]) B0.out
    · have q2 : decide (5 < t.k) = false := decide_eq_false h2
      replace hE := hE.out
      rw [if_neg (by omega)] at hE
      replace hE := Lib.hid hE
      by_cases h3 : t.k = 5
      · have q3 : (t.k == 5) = true := by simp [h3]
        have q4 : (t.k != 5) = false := by simp [h3]
        replace hE := hE.out
        simp only [h3, true_and] at hE
        replace hE := Lib.hid hE
        replace h3 := Lib.hid h3
        go_enter Tryz.func29, Tryz.ntmps29
        go_wp2_with fail
        refine (CN.out _).mono ?_
        rintro e w1 ⟨rfl, b1⟩
        have B1 := Lib.hid (bnext B0.out b1)
        replace S0 := Lib.hid (S0.out.keeps b1)
        replace G := Lib.hid (G.out.keeps b1)
        have c0 := G.out.cell 0
        have c1 := G.out.cell 1
        have c2 := G.out.cell 2
        simp only [List.getElem?_toArray, List.getElem?_cons_zero, List.getElem?_cons_succ] at c0 c1 c2
        clear b1 CN
        generalize name t.of = z at *
        cases z
        · replace hE := hE.out
          rw [if_pos rfl] at hE
          replace hE := Lib.hid hE
          go_wp2_with fail
          go_ret
          exact nu_of (by rw [hE.out]) B1.out
        · replace hE := hE.out
          rw [if_neg (by decide), if_neg (fun h => h.1 rfl)] at hE
          replace hE := Lib.hid hE
          go_wp2_with (first | (refine arm_loadT infTy Tryz.underlying31 rfl (.tmp 1) rfl rfl _ _ _ rfl G.out rfl ?_))
          refine (CI.out _).mono ?_
          rintro e w2 ⟨rfl, b2⟩
          have B2 := Lib.hid (bnext B1.out b2)
          replace S0 := Lib.hid (S0.out.keeps b2)
          replace G := Lib.hid (G.out.keeps b2)
          have c1 := G.out.cell 1
          simp only [List.getElem?_toArray, List.getElem?_cons_zero, List.getElem?_cons_succ] at c1
          clear b2 CI
          generalize num t = m at *
          cases m
          · by_cases hp : 0 < t.un.length
            · have q9 : decide (0 < (t.un.length : Int)) = true := decide_eq_true (by omega)
              replace hE := hE.out
              rw [if_pos ⟨rfl, hp⟩] at hE
              replace hE := Lib.hid hE
              go_wp2_with fail
              go_ret
              exact nu_of (by rw [hE.out]) B2.out
            · have q9 : decide (0 < (t.un.length : Int)) = false := decide_eq_false (by omega)
              replace hE := hE.out
              rw [if_neg (fun h => hp h.2)] at hE
              replace hE := Lib.hid hE
              go_wp2_with fail
              refine (CU.out _ S0.out).mono ?_
              rintro e w3 ⟨rfl, b3⟩
              have B3 := Lib.hid (bnext B2.out b3)
              replace S0 := Lib.hid (S0.out.keeps b3)
              replace G := Lib.hid (G.out.keeps b3)
              have d1 := G.out.cell 1
              simp only [List.getElem?_toArray, List.getElem?_cons_zero, List.getElem?_cons_succ] at d1
              clear b3 CU
              by_cases hk : un.ck t.un = 0
              · have q7 : (un.ck t.un != 0) = false := by simp [hk]
                have hI := Lib.hid (show okU t.un = (t.un.drop 0).all fun f => name f.1 by unfold okU; rw [decide_eq_true hk, Bool.true_and, List.drop_zero])
                replace hk := Lib.hid hk
                go_wp2_with fail
                have B9 := B3
                have G9 := G
                have S9 := S0
                clear d1 B3 G S0
                go_loopw [3] (fun vi wr => ∃ (j : Nat), vi = .int .i64 (j : Nat) ∧ Hid (j ≤ t.un.length) ∧ Hid (okU t.un = (t.un.drop j).all fun f => name f.1) ∧ Hid (Below w.heap.size w wr) ∧ Hid (un.Sl wr ua t.un.length uc t.un) ∧ Hid (Blk wr w.heap.size 31 #[.int .i64 t.k, .slice ua t.un.length uc, .string t.of])) (fun vi _ => t.un.length - (intOf vi).toNat)
                case atStart => exact ⟨0, rfl, Lib.hid (Nat.zero_le _), hI, B9, S9, G9⟩
                case round =>
                  clear hI B9 S9 G9
                  obtain ⟨j, rfl, hj, hI, hb, hS, G⟩ := hrel
                  have d0 := G.out.cell 0
                  have d1 := G.out.cell 1
                  simp only [List.getElem?_toArray, List.getElem?_cons_zero, List.getElem?_cons_succ] at d0 d1
                  by_cases hlt : j < t.un.length
                  · exfalso; omega
                  · have q1 : decide ((j : Int) < (t.un.length : Int)) = false := decide_eq_false (by omega)
                    replace hI := hI.out
                    rw [List.drop_eq_nil_of_le (by omega), List.all_nil] at hI
                    replace hE := hE.out
                    rw [if_pos hI] at hE
                    replace hE := Lib.hid hE
                    clear hj hI
                    go_wp2_with fail
                    go_ret
                    exact nu_of (by rw [hE.out]) hb.out
              · have q7 : (un.ck t.un != 0) = true := by simp [hk]
                replace hE := hE.out
                rw [if_neg (by unfold okU; rw [decide_eq_false hk, Bool.false_and]; decide)] at hE
                replace hE := Lib.hid hE
                replace hk := Lib.hid hk
                go_wp2_with fail
                go_ret
                exact nu_of (by rw [hE.out]) B3.out
          · replace hE := hE.out
            rw [if_neg (fun h => by cases h.1)] at hE
            replace hE := Lib.hid hE
            go_wp2_with fail
            refine (CU.out _ S0.out).mono ?_
            rintro e w4 ⟨rfl, b4⟩
            have B4 := Lib.hid (bnext B2.out b4)
            replace S0 := Lib.hid (S0.out.keeps b4)
            replace G := Lib.hid (G.out.keeps b4)
            have d1 := G.out.cell 1
            simp only [List.getElem?_toArray, List.getElem?_cons_zero, List.getElem?_cons_succ] at d1
            clear b4 CU
            by_cases hk : un.ck t.un = 0
            · have q7 : (un.ck t.un != 0) = false := by simp [hk]
              have hI := Lib.hid (show okU t.un = (t.un.drop 0).all fun f => name f.1 by unfold okU; rw [decide_eq_true hk, Bool.true_and, List.drop_zero])
              replace hk := Lib.hid hk
              go_wp2_with fail
              have B9 := B4
              have G9 := G
              have S9 := S0
              clear d1 B4 G S0
              go_loopw [3] (fun vi wr => ∃ (j : Nat), vi = .int .i64 (j : Nat) ∧ Hid (j ≤ t.un.length) ∧ Hid (okU t.un = (t.un.drop j).all fun f => name f.1) ∧ Hid (Below w.heap.size w wr) ∧ Hid (un.Sl wr ua t.un.length uc t.un) ∧ Hid (Blk wr w.heap.size 31 #[.int .i64 t.k, .slice ua t.un.length uc, .string t.of])) (fun vi _ => t.un.length - (intOf vi).toNat)
              case atStart => exact ⟨0, rfl, Lib.hid (Nat.zero_le _), hI, B9, S9, G9⟩
              case round =>
                clear hI B9 S9 G9
                obtain ⟨j, rfl, hj, hI, hb, hS, G⟩ := hrel
                have d0 := G.out.cell 0
                have d1 := G.out.cell 1
                simp only [List.getElem?_toArray, List.getElem?_cons_zero, List.getElem?_cons_succ] at d0 d1
                by_cases hlt : j < t.un.length
                · have q1 : decide ((j : Int) < (t.un.length : Int)) = true := decide_eq_true (by omega)
                  obtain ⟨bk, off, rfl, hC⟩ := hS.out.hat.resolve_left (by omega)
                  obtain ⟨c0, c1⟩ := hC j hlt
                  have f4 := Lib.hid (next_at (j := j) (by have := hL.out; omega))
                  have i1 : (j : Int) < (t.un.length : Int) := by omega
                  replace hI := hI.out
                  rw [un.drop_gt hlt, List.all_cons] at hI
                  replace hI := Lib.hid hI
                  clear hC hj
                  generalize un.gt t.un j = x at *
                  go_wp2_with fail
                  refine (CM.out x.1 _).mono ?_
                  rintro e w21 ⟨rfl, b21⟩
                  have B21 := Lib.hid (bnext hb.out b21)
                  replace hS := Lib.hid (hS.out.keeps b21)
                  replace G := Lib.hid (G.out.keeps b21)
                  clear b21 c0 c1 d0 d1 hb
                  generalize name x.1 = q at *
                  cases q
                  · replace hE := hE.out
                    rw [if_neg (by rw [hI.out, Bool.false_and]; decide)] at hE
                    replace hE := Lib.hid hE
                    go_wp2_with fail
                    go_ret
                    exact nu_of (by rw [hE.out]) B21.out
                  · replace hI := Lib.hid (hI.out.trans (Bool.true_and _))
                    go_wp2_with fail
                    exact ⟨⟨j + 1, congrArg (Value.int .i64) f4.out, Lib.hid hlt, hI, B21, hS, G⟩, less_at hlt f4.out⟩
                · have q1 : decide ((j : Int) < (t.un.length : Int)) = false := decide_eq_false (by omega)
                  replace hI := hI.out
                  rw [List.drop_eq_nil_of_le (by omega), List.all_nil] at hI
                  replace hE := hE.out
                  rw [if_pos hI] at hE
                  replace hE := Lib.hid hE
                  clear hj hI
                  go_wp2_with fail
                  go_ret
                  exact nu_of (by rw [hE.out]) hb.out
            · have q7 : (un.ck t.un != 0) = true := by simp [hk]
              replace hE := hE.out
              rw [if_neg (by unfold okU; rw [decide_eq_false hk, Bool.false_and]; decide)] at hE
              replace hE := Lib.hid hE
              replace hk := Lib.hid hk
              go_wp2_with fail
              go_ret
              exact nu_of (by rw [hE.out]) B4.out
      · have q3 : (t.k == 5) = false := by simp [h3]
        have q4 : (t.k != 5) = true := by simp [h3]
        replace hE := hE.out
        rw [if_neg (fun h => h3 h.1)] at hE
        replace hE := Lib.hid hE
        by_cases h4 : t.of = .empty
        · have q5 : (!t.of.toList.isEmpty) = false := by simp only [eqE, h4, decide_true, Bool.not_true]
          replace hE := hE.out
          rw [if_neg (fun h => h.2 h4)] at hE
          replace hE := Lib.hid hE
          clear h4 CN
          go_enter Tryz.func29, Tryz.ntmps29
          go_wp2_with (first | (refine arm_loadT infTy Tryz.underlying31 rfl (.tmp 1) rfl rfl _ _ _ rfl G.out rfl ?_))
          refine (CI.out _).mono ?_
          rintro e w22 ⟨rfl, b22⟩
          have B22 := Lib.hid (bnext B0.out b22)
          replace S0 := Lib.hid (S0.out.keeps b22)
          replace G := Lib.hid (G.out.keeps b22)
          have c1 := G.out.cell 1
          simp only [List.getElem?_toArray, List.getElem?_cons_zero, List.getElem?_cons_succ] at c1
          clear b22 CI
          generalize num t = m at *
          cases m
          · by_cases hp : 0 < t.un.length
            · have q9 : decide (0 < (t.un.length : Int)) = true := decide_eq_true (by omega)
              replace hE := hE.out
              rw [if_pos ⟨rfl, hp⟩] at hE
              replace hE := Lib.hid hE
              go_wp2_with fail
              go_ret
              exact nu_of (by rw [hE.out]) B22.out
            · have q9 : decide (0 < (t.un.length : Int)) = false := decide_eq_false (by omega)
              replace hE := hE.out
              rw [if_neg (fun h => hp h.2)] at hE
              replace hE := Lib.hid hE
              go_wp2_with fail
              refine (CU.out _ S0.out).mono ?_
              rintro e w23 ⟨rfl, b23⟩
              have B23 := Lib.hid (bnext B22.out b23)
              replace S0 := Lib.hid (S0.out.keeps b23)
              replace G := Lib.hid (G.out.keeps b23)
              have d1 := G.out.cell 1
              simp only [List.getElem?_toArray, List.getElem?_cons_zero, List.getElem?_cons_succ] at d1
              clear b23 CU
              by_cases hk : un.ck t.un = 0
              · have q7 : (un.ck t.un != 0) = false := by simp [hk]
                have hI := Lib.hid (show okU t.un = (t.un.drop 0).all fun f => name f.1 by unfold okU; rw [decide_eq_true hk, Bool.true_and, List.drop_zero])
                replace hk := Lib.hid hk
                go_wp2_with fail
                have B9 := B23
                have G9 := G
                have S9 := S0
                clear d1 B23 G S0
                go_loopw [3] (fun vi wr => ∃ (j : Nat), vi = .int .i64 (j : Nat) ∧ Hid (j ≤ t.un.length) ∧ Hid (okU t.un = (t.un.drop j).all fun f => name f.1) ∧ Hid (Below w.heap.size w wr) ∧ Hid (un.Sl wr ua t.un.length uc t.un) ∧ Hid (Blk wr w.heap.size 31 #[.int .i64 t.k, .slice ua t.un.length uc, .string t.of])) (fun vi _ => t.un.length - (intOf vi).toNat)
                case atStart => exact ⟨0, rfl, Lib.hid (Nat.zero_le _), hI, B9, S9, G9⟩
                case round =>
                  clear hI B9 S9 G9
                  obtain ⟨j, rfl, hj, hI, hb, hS, G⟩ := hrel
                  have d0 := G.out.cell 0
                  have d1 := G.out.cell 1
                  simp only [List.getElem?_toArray, List.getElem?_cons_zero, List.getElem?_cons_succ] at d0 d1
                  by_cases hlt : j < t.un.length
                  · exfalso; omega
                  · have q1 : decide ((j : Int) < (t.un.length : Int)) = false := decide_eq_false (by omega)
                    replace hI := hI.out
                    rw [List.drop_eq_nil_of_le (by omega), List.all_nil] at hI
                    replace hE := hE.out
                    rw [if_pos hI] at hE
                    replace hE := Lib.hid hE
                    clear hj hI
                    go_wp2_with fail
                    go_ret
                    exact nu_of (by rw [hE.out]) hb.out
              · have q7 : (un.ck t.un != 0) = true := by simp [hk]
                replace hE := hE.out
                rw [if_neg (by unfold okU; rw [decide_eq_false hk, Bool.false_and]; decide)] at hE
                replace hE := Lib.hid hE
                replace hk := Lib.hid hk
                go_wp2_with fail
                go_ret
                exact nu_of (by rw [hE.out]) B23.out
          · replace hE := hE.out
            rw [if_neg (fun h => by cases h.1)] at hE
            replace hE := Lib.hid hE
            go_wp2_with fail
            refine (CU.out _ S0.out).mono ?_
            rintro e w24 ⟨rfl, b24⟩
            have B24 := Lib.hid (bnext B22.out b24)
            replace S0 := Lib.hid (S0.out.keeps b24)
            replace G := Lib.hid (G.out.keeps b24)
            have d1 := G.out.cell 1
            simp only [List.getElem?_toArray, List.getElem?_cons_zero, List.getElem?_cons_succ] at d1
            clear b24 CU
            by_cases hk : un.ck t.un = 0
            · have q7 : (un.ck t.un != 0) = false := by simp [hk]
              have hI := Lib.hid (show okU t.un = (t.un.drop 0).all fun f => name f.1 by unfold okU; rw [decide_eq_true hk, Bool.true_and, List.drop_zero])
              replace hk := Lib.hid hk
              go_wp2_with fail
              have B9 := B24
              have G9 := G
              have S9 := S0
              clear d1 B24 G S0
              go_loopw [3] (fun vi wr => ∃ (j : Nat), vi = .int .i64 (j : Nat) ∧ Hid (j ≤ t.un.length) ∧ Hid (okU t.un = (t.un.drop j).all fun f => name f.1) ∧ Hid (Below w.heap.size w wr) ∧ Hid (un.Sl wr ua t.un.length uc t.un) ∧ Hid (Blk wr w.heap.size 31 #[.int .i64 t.k, .slice ua t.un.length uc, .string t.of])) (fun vi _ => t.un.length - (intOf vi).toNat)
              case atStart => exact ⟨0, rfl, Lib.hid (Nat.zero_le _), hI, B9, S9, G9⟩
              case round =>
                clear hI B9 S9 G9
                obtain ⟨j, rfl, hj, hI, hb, hS, G⟩ := hrel
                have d0 := G.out.cell 0
                have d1 := G.out.cell 1
                simp only [List.getElem?_toArray, List.getElem?_cons_zero, List.getElem?_cons_succ] at d0 d1
                by_cases hlt : j < t.un.length
                · have q1 : decide ((j : Int) < (t.un.length : Int)) = true := decide_eq_true (by omega)
                  obtain ⟨bk, off, rfl, hC⟩ := hS.out.hat.resolve_left (by omega)
                  obtain ⟨c0, c1⟩ := hC j hlt
                  have f4 := Lib.hid (next_at (j := j) (by have := hL.out; omega))
                  have i1 : (j : Int) < (t.un.length : Int) := by omega
                  replace hI := hI.out
                  rw [un.drop_gt hlt, List.all_cons] at hI
                  replace hI := Lib.hid hI
                  clear hC hj
                  generalize un.gt t.un j = x at *
                  go_wp2_with fail
                  refine (CM.out x.1 _).mono ?_
                  rintro e w21 ⟨rfl, b21⟩
                  have B21 := Lib.hid (bnext hb.out b21)
                  replace hS := Lib.hid (hS.out.keeps b21)
                  replace G := Lib.hid (G.out.keeps b21)
                  clear b21 c0 c1 d0 d1 hb
                  generalize name x.1 = q at *
                  cases q
                  · replace hE := hE.out
                    rw [if_neg (by rw [hI.out, Bool.false_and]; decide)] at hE
                    replace hE := Lib.hid hE
                    go_wp2_with fail
                    go_ret
                    exact nu_of (by rw [hE.out]) B21.out
                  · replace hI := Lib.hid (hI.out.trans (Bool.true_and _))
                    go_wp2_with fail
                    exact ⟨⟨j + 1, congrArg (Value.int .i64) f4.out, Lib.hid hlt, hI, B21, hS, G⟩, less_at hlt f4.out⟩
                · have q1 : decide ((j : Int) < (t.un.length : Int)) = false := decide_eq_false (by omega)
                  replace hI := hI.out
                  rw [List.drop_eq_nil_of_le (by omega), List.all_nil] at hI
                  replace hE := hE.out
                  rw [if_pos hI] at hE
                  replace hE := Lib.hid hE
                  clear hj hI
                  go_wp2_with fail
                  go_ret
                  exact nu_of (by rw [hE.out]) hb.out
            · have q7 : (un.ck t.un != 0) = true := by simp [hk]
              replace hE := hE.out
              rw [if_neg (by unfold okU; rw [decide_eq_false hk, Bool.false_and]; decide)] at hE
              replace hE := Lib.hid hE
              replace hk := Lib.hid hk
              go_wp2_with fail
              go_ret
              exact nu_of (by rw [hE.out]) B24.out
        · have q5 : (!t.of.toList.isEmpty) = true := by simp only [eqE, h4, decide_false, Bool.not_false]
          replace hE := hE.out
          rw [if_pos ⟨h3, h4⟩] at hE
          replace hE := Lib.hid hE
          clear h4 CN CU CI
          go_enter Tryz.func29, Tryz.ntmps29
          go_wp2_with fail
          go_ret
          exact nu_of (by rw [hE.out]) B0.out
end Go.Proofs.YtbahfelnbofjjaaGreatDoor.ch
namespace Go.Proofs.YtbahfelnbofjjaaGreatDoor
open Go.RowKit dec

theorem fields_any (k n : Int) (s : ByteArray) (w : World) : Calls Tryz.prog 274 #[.agg #[.int .i64 k, .int .i64 n, .string s]] w fun e w' => e = .returned (.bool (fmd ⟨k, n, s⟩)) ∧ Below w.heap.size w w' := by
  go_enter Tryz.func274, Tryz.ntmps274
  go_wp2
  all_goals go_ret
  all_goals refine ⟨congrArg (fun b => Ending.returned (Value.bool b)) ?_, balloc (b0 w) _⟩
  all_goals simp_all [fmd, emp]
  all_goals rfl
theorem printable_any (lo : Nat) (s : ByteArray) (hs : s.size ≤ 9223372036854775806) (w : World) : Calls Tryz.prog 303 #[.string s, .int .u8 (lo : Nat)] w fun e w' => e = .returned (.bool (pB lo s.data.toList)) ∧ w = w' := by
  go_enter Tryz.func303, Tryz.ntmps303
  go_wp2
  go_loopw [5] (fun x wr => ∃ i : Nat, x = .int .i64 (i : Nat) ∧ i ≤ s.size ∧ Hid (pB lo s.data.toList = pB lo (s.data.toList.drop i)) ∧ wr = w) (fun x _ => s.size - (intOf x).toNat)
  case atStart => exact ⟨0, rfl, by omega, rfl, rfl⟩
  case round =>
    obtain ⟨i, rfl, hi, hp, rfl⟩ := hrel
    go_wp2
    case roundEnd =>
      have h1 : i < s.size := by omega
      rename_i h2
      simp only [beq_eq_false_iff_ne] at h2
      refine ⟨⟨i + 1, rfl, by omega, ?_, trivial⟩, ?_⟩
      · exact Lib.hid (hp.out.trans ((pB_step lo s h1).2 ((okB_yes lo s[i]).2 (by omega))))
      · show s.size - ((i : Int) + 1).toNat < s.size - ((i : Nat) : Int).toNat
        omega
    all_goals go_ret
    all_goals refine ⟨congrArg (fun b => Ending.returned (Value.bool b)) (Eq.symm ?_), rfl⟩
    all_goals rw [hp.out]
    all_goals first
      | exact pB_end lo s (by omega)
      | exact (pB_step lo s (by omega)).1 ((okB_no lo _).2 (by omega))
      | (rename_i h2; simp only [beq_iff_eq] at h2; exact (pB_step lo s (by omega)).1 ((okB_no lo _).2 (by omega)))
theorem text_any (s : ByteArray) (hs : s.size ≤ 140737488355328) (w : World) : Calls Tryz.prog 276 #[.string s] w fun e w' => e = .returned (.bool (decide (s.size ≤ 64) && pB 32 s.data.toList)) ∧ w = w' := by
  have C1 := Lib.hid (fun w => printable_any 32 s (by omega) w)
  by_cases h : s.size ≤ 64
  · rw [decide_eq_true h]
    go_enter Tryz.func276, Tryz.ntmps276
    go_wp2_with fail
    refine (C1.out _).mono ?_
    rintro e w' ⟨rfl, rfl⟩
    go_wp2
    go_ret
    exact ⟨rfl, rfl⟩
  · rw [decide_eq_false h]
    clear C1
    go_enter Tryz.func276, Tryz.ntmps276
    go_wp2_with fail
    go_ret
    exact ⟨rfl, rfl⟩
theorem key_any (s : ByteArray) (hs : s.size ≤ 140737488355328) (w : World) : Calls Tryz.prog 277 #[.string s] w fun e w' => e = .returned (.bool (!decide (s.size = 0) && decide (s.size ≤ 32) && pB 33 s.data.toList)) ∧ w = w' := by
  have C1 := Lib.hid (fun w => printable_any 33 s (by omega) w)
  by_cases hz : s.size = 0
  · have hz2 := size_zero hz
    subst hz2
    clear C1
    go_enter Tryz.func277, Tryz.ntmps277
    go_wp2_with fail
    go_ret
    exact ⟨rfl, rfl⟩
  have he : s.toList.isEmpty = false := by rw [emp]; exact decide_eq_false hz
  rw [decide_eq_false hz]
  clear hz
  by_cases h : s.size ≤ 32
  · rw [decide_eq_true h]
    go_enter Tryz.func277, Tryz.ntmps277
    go_wp2_with fail
    refine (C1.out _).mono ?_
    rintro e w' ⟨rfl, rfl⟩
    go_wp2
    go_ret
    exact ⟨rfl, rfl⟩
  · rw [decide_eq_false h]
    clear C1
    go_enter Tryz.func277, Tryz.ntmps277
    go_wp2_with fail
    go_ret
    exact ⟨rfl, rfl⟩

/-- Check as the reference spells it. -/
theorem ck_ref (k n : Int) (s : ByteArray) : ck ⟨k, n, s⟩ = if fmd ⟨k, n, s⟩ then (if rg n = false ∨ (k = 4 ∧ ¬ s.size ≤ 64) ∨ (k = 5 ∧ ¬ s.size ≤ 32) then 2
    else if (k = 4 ∧ (decide (s.size ≤ 64) && pB 32 s.data.toList) = false) ∨ (k = 5 ∧ (!decide (s.size = 0) && decide (s.size ≤ 32) && pB 33 s.data.toList) = false) then 3 else 0) else 1 := by
  have r0 : rg 0 = true := by decide
  have r1 : rg 1 = true := by decide
  cases hf : fmd ⟨k, n, s⟩
  · unfold ck; rw [hf]; rfl
  unfold ck
  rw [hf]
  unfold fmd at hf
  simp only at hf
  unfold lmt spl
  simp only
  by_cases k0 : k = 0
  · subst k0
    simp at hf
    rw [hf.1]
    simp [r0]
  by_cases k1 : k = 1
  · subst k1
    simp at hf
    rcases hf.1 with e | e <;> (rw [e]; simp [r0, r1])
  by_cases k2 : k = 2 ∨ k = 3
  · have k4 : ¬ k = 4 := by omega
    have k5 : ¬ k = 5 := by omega
    simp [k2, k4, k5]
    cases rg n <;> simp
  by_cases k4 : k = 4
  · subst k4
    simp at hf
    rw [hf]
    by_cases h : s.size ≤ 64
    · simp [h, r0]
      cases pB 32 s.data.toList <;> simp
    · simp [h]
  by_cases k5 : k = 5
  · subst k5
    simp at hf
    rw [hf]
    by_cases h : s.size ≤ 32
    · simp [h, r0]
      by_cases hz : s = .empty
      · simp [hz]
      · simp [hz]
        cases pB 33 s.data.toList <;> simp
    · simp [h]
  · simp [k0, k1, k4, k5] at hf
    exact absurd hf.1 k2
theorem rcheck_any (k n : Int) (s : ByteArray) (hs : s.size ≤ 140737488355328) (w : World) : Calls Tryz.prog 238 #[.agg #[.int .i64 k, .int .i64 n, .string s]] w fun e w' => e = .returned (.int .i64 (ck ⟨k, n, s⟩)) ∧ Below w.heap.size w w' := by
  have C1 := Lib.hid (fields_any k n s)
  have C2 := Lib.hid (refInRange_any n)
  have C3 := Lib.hid (text_any s hs)
  have C4 := Lib.hid (key_any s hs)
  have V0 := Vx.new w k n s 23
  have E : Hid (ck ⟨k, n, s⟩ = _) := ck_ref k n s
  generalize fmd ⟨k, n, s⟩ = f at *
  generalize rg n = r at *
  go_enter Tryz.func238, Tryz.ntmps238
  go_wp2_with fail
  refine (C1.out _).mono ?_
  rintro e w1 ⟨rfl, b1⟩
  obtain ⟨c0, c1, c2⟩ := V0.keeps b1
  clear V0 C1
  replace b1 := (balloc (b0 w) _).trans (b1.mono (by simp))
  cases f
  · go_wp2_with fail
    go_ret
    exact ⟨by rw [E.out]; rfl, b1⟩
  go_wp2_with fail
  refine (C2.out _).mono ?_
  rintro e w2 ⟨rfl, rfl⟩
  cases r
  · go_wp2_with fail
    go_ret
    exact ⟨by rw [E.out]; simp, b1⟩
  clear C2
  by_cases k4 : k = 4
  · subst k4
    clear C4
    by_cases h : s.size ≤ 64
    · have C : Hid (∀ w, Calls Tryz.prog 276 #[.string s] w fun e w' => e = .returned (.bool (pB 32 s.data.toList)) ∧ w = w') := by
        have := C3.out
        rw [decide_eq_true h] at this
        exact this
      clear C3
      generalize pB 32 s.data.toList = p at *
      go_wp2_with fail
      refine (C.out _).mono ?_
      rintro e w3 ⟨rfl, rfl⟩
      cases p
      · go_wp2_with fail
        go_ret
        exact ⟨by rw [E.out]; simp [h], b1⟩
      · go_wp2_with fail
        go_ret
        exact ⟨by rw [E.out]; simp [h], b1⟩
    · clear C3
      go_wp2_with fail
      go_ret
      exact ⟨by rw [E.out]; simp [h], b1⟩
  clear C3
  by_cases k5 : k = 5
  · subst k5
    by_cases h : s.size ≤ 32
    · have C : Hid (∀ w, Calls Tryz.prog 277 #[.string s] w fun e w' => e = .returned (.bool (!decide (s.size = 0) && decide (s.size ≤ 32) && pB 33 s.data.toList)) ∧ w = w') := C4.out
      clear C4
      generalize (!decide (s.size = 0) && decide (s.size ≤ 32) && pB 33 s.data.toList) = p at *
      go_wp2_with fail
      refine (C.out _).mono ?_
      rintro e w3 ⟨rfl, rfl⟩
      cases p
      · go_wp2_with fail
        go_ret
        exact ⟨by rw [E.out]; simp [h], b1⟩
      · go_wp2_with fail
        go_ret
        exact ⟨by rw [E.out]; simp [h], b1⟩
    · clear C4
      go_wp2_with fail
      go_ret
      exact ⟨by rw [E.out]; simp [h], b1⟩
  clear C4
  go_wp2_with fail
  go_ret
  exact ⟨by rw [E.out]; simp [k4, k5], b1⟩
/-- Has. -/
def hsP (v : Va) (t : Int) : Bool := ok v && (decide (v.k = 0) || decide (v.k = t))
set_option maxRecDepth 100000 in
theorem valid_any (k n : Int) (s : ByteArray) (hs : s.size ≤ 140737488355328) (w : World) : Calls Tryz.prog 227 #[.agg #[.int .i64 k, .int .i64 n, .string s]] w fun e w' => e = .returned (.bool (ok ⟨k, n, s⟩)) ∧ Below w.heap.size w w' := by
  have C1 := Lib.hid (rcheck_any k n s hs)
  unfold ok
  generalize ck ⟨k, n, s⟩ = c at *
  have hc : (c == 0) = decide (c = 0) := rfl
  go_enter Tryz.func227, Tryz.ntmps227
  go_wp2_with fail
  refine (C1.out _).mono ?_
  rintro e w1 ⟨rfl, b1⟩
  replace b1 := (balloc (b0 w) _).trans (b1.mono (by simp))
  go_wp2_with fail
  go_ret
  exact ⟨rfl, b1⟩
end Go.Proofs.YtbahfelnbofjjaaGreatDoor

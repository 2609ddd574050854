/-
  The reference's Type.
-/
import Derived.Test.YtbkpjhffmaldmaaGreatDoorQ04
import Derived.Test.YtbkpjhffmaldmaaGreatDoorZURck
namespace Go.Proofs.YtbkpjhffmaldmaaGreatDoor.ch
open Go.RowKit dec

set_option maxRecDepth 100000 in
set_option maxHeartbeats 2000000 in
theorem rtype_any (t : Ty) (ua : Option Addr) (uc : Nat) (w : World) (hA : un.Sl w ua t.un.length uc t.un) :
    Calls Tryz.prog 19 #[.agg (tyC t ua uc)] w (Num (tyE t) w) := by
  have bb := balloc (b0 w) (.cells (tyC t ua uc) 36)
  have B0 := Lib.hid bb
  have G := Lib.hid (Blk.new w 36 (tyC t ua uc))
  have S0 := Lib.hid (hA.keeps bb)
  have hE : tyE t = tyE t := rfl
  conv at hE => rhs; unfold tyE
  replace hE := Lib.hid hE
  have hL := Lib.hid (show t.un.length ≤ 9223372036854775807 by have := hA.hcap; have := hA.hmax; omega)
  have CN := Lib.hid (fun W => rname_any t.of W)
  have CU := Lib.hid (fun W S => un.rcheck_any ua t.un.length uc t.un W S)
  have CM := Lib.hid rname_any
  have CI := Lib.hid (fun W => rNumber_any t ua uc W)
  clear hA bb
  unfold tyC at *
  by_cases h1 : t.k < 1
  · have q1 : decide (t.k < 1) = true := decide_eq_true h1
    replace hE := hE.out
    rw [if_pos (.inl h1)] at hE
    replace hE := Lib.hid hE
    clear CN CU CI
    go_enter Tryz.func19, Tryz.ntmps19
    go_wp2_with fail
    go_ret
    exact nu_of (by rw [hE.out]) B0.out
  · have q1 : decide (t.k < 1) = false := decide_eq_false h1
    by_cases h2 : 5 < t.k
    · have q2 : decide (5 < t.k) = true := decide_eq_true h2
      replace hE := hE.out
      rw [if_pos (.inr h2)] at hE
      replace hE := Lib.hid hE
      clear CN CU CI
      go_enter Tryz.func19, Tryz.ntmps19
      go_wp2_with fail
      go_ret
      exact nu_of (by rw [hE.out]) B0.out
    · have q2 : decide (5 < t.k) = false := decide_eq_false h2
      replace hE := hE.out
      rw [if_neg (by omega)] at hE
      replace hE := Lib.hid hE
      by_cases h3 : t.k = 5
      · have q3 : (t.k == 5) = true := by simp [h3]
        have q4 : (t.k != 5) = false := by simp [h3]
        replace hE := hE.out
        simp only [h3, true_and] at hE
        replace hE := Lib.hid hE
        replace h3 := Lib.hid h3
        go_enter Tryz.func19, Tryz.ntmps19
        go_wp2_with fail
        refine (CN.out _).mono ?_
        rintro e w1 ⟨rfl, b1⟩
        have B1 := Lib.hid (bnext B0.out b1)
        replace S0 := Lib.hid (S0.out.keeps b1)
        replace G := Lib.hid (G.out.keeps b1)
        have c0 := G.out.cell 0
        have c1 := G.out.cell 1
        have c2 := G.out.cell 2
        simp only [List.getElem?_toArray, List.getElem?_cons_zero, List.getElem?_cons_succ] at c0 c1 c2
        clear b1 CN
        generalize name t.of = z at *
        cases z
        · replace hE := hE.out
          rw [if_pos rfl] at hE
          replace hE := Lib.hid hE
          go_wp2_with fail
          go_ret
          exact nu_of (by rw [hE.out]) B1.out
        · replace hE := hE.out
          rw [if_neg (by decide), if_neg (fun h => h.1 rfl)] at hE
          replace hE := Lib.hid hE
          go_wp2_with (first | (refine arm_loadT infTy Tryz.underlying36 rfl (.tmp 1) rfl rfl _ _ _ rfl G.out rfl ?_))
          refine (CI.out _).mono ?_
          rintro e w2 ⟨rfl, b2⟩
          have B2 := Lib.hid (bnext B1.out b2)
          replace S0 := Lib.hid (S0.out.keeps b2)
          replace G := Lib.hid (G.out.keeps b2)
          have c1 := G.out.cell 1
          simp only [List.getElem?_toArray, List.getElem?_cons_zero, List.getElem?_cons_succ] at c1
          clear b2 CI
          generalize num t = m at *
          cases m
          · by_cases hp : 0 < t.un.length
            · have q9 : decide (0 < (t.un.length : Int)) = true := decide_eq_true (by omega)
              replace hE := hE.out
              rw [if_pos ⟨rfl, hp⟩] at hE
              replace hE := Lib.hid hE
              go_wp2_with fail
              go_ret
              exact nu_of (by rw [hE.out]) B2.out
            · have q9 : decide (0 < (t.un.length : Int)) = false := decide_eq_false (by omega)
              replace hE := hE.out
              rw [if_neg (fun h => hp h.2)] at hE
              replace hE := Lib.hid hE
              go_wp2_with fail
              refine (CU.out _ S0.out).mono ?_
              rintro e w3 ⟨rfl, b3⟩
              have B3 := Lib.hid (bnext B2.out b3)
              replace S0 := Lib.hid (S0.out.keeps b3)
              replace G := Lib.hid (G.out.keeps b3)
              have d1 := G.out.cell 1
              simp only [List.getElem?_toArray, List.getElem?_cons_zero, List.getElem?_cons_succ] at d1
              clear b3 CU
              by_cases hk : un.ck t.un = 0
              · have q7 : (un.ck t.un != 0) = false := by simp [hk]
                have hI := Lib.hid (show okU t.un = (t.un.drop 0).all fun f => name f.1 by unfold okU; rw [decide_eq_true hk, Bool.true_and, List.drop_zero])
                replace hk := Lib.hid hk
                go_wp2_with fail
                have B9 := B3
                have G9 := G
                have S9 := S0
                clear d1 B3 G S0
                go_loopw [3] (fun vi wr => ∃ (j : Nat), vi = .int .i64 (j : Nat) ∧ Hid (j ≤ t.un.length) ∧ Hid (okU t.un = (t.un.drop j).all fun f => name f.1) ∧ Hid (Below w.heap.size w wr) ∧ Hid (un.Sl wr ua t.un.length uc t.un) ∧ Hid (Blk wr w.heap.size 36 #[.int .i64 t.k, .slice ua t.un.length uc, .string t.of])) (fun vi _ => t.un.length - (intOf vi).toNat)
                case atStart => exact ⟨0, rfl, Lib.hid (Nat.zero_le _), hI, B9, S9, G9⟩
                case round =>
                  clear hI B9 S9 G9
                  obtain ⟨j, rfl, hj, hI, hb, hS, G⟩ := hrel
                  have d0 := G.out.cell 0
                  have d1 := G.out.cell 1
                  simp only [List.getElem?_toArray, List.getElem?_cons_zero, List.getElem?_cons_succ] at d0 d1
                  by_cases hlt : j < t.un.length
                  · exfalso; omega
                  · have q1 : decide ((j : Int) < (t.un.length : Int)) = false := decide_eq_false (by omega)
                    replace hI := hI.out
                    rw [List.drop_eq_nil_of_le (by omega), List.all_nil] at hI
                    replace hE := hE.out
                    rw [if_pos hI] at hE
                    replace hE := Lib.hid hE
                    clear hj hI
                    go_wp2_with fail
                    go_ret
                    exact nu_of (by rw [hE.out]) hb.out
              · have q7 : (un.ck t.un != 0) = true := by simp [hk]
                replace hE := hE.out
                rw [if_neg (by unfold okU; rw [decide_eq_false hk, Bool.false_and]; decide)] at hE
                replace hE := Lib.hid hE
                replace hk := Lib.hid hk
                go_wp2_with fail
                go_ret
                exact nu_of (by rw [hE.out]) B3.out
          · replace hE := hE.out
            rw [if_neg (fun h => by cases h.1)] at hE
            replace hE := Lib.hid hE
            go_wp2_with fail
            refine (CU.out _ S0.out).mono ?_
            rintro e w4 ⟨rfl, b4⟩
            have B4 := Lib.hid (bnext B2.out b4)
            replace S0 := Lib.hid (S0.out.keeps b4)
            replace G := Lib.hid (G.out.keeps b4)
            have d1 := G.out.cell 1
            simp only [List.getElem?_toArray, List.getElem?_cons_zero, List.getElem?_cons_succ] at d1
            clear b4 CU
            by_cases hk : un.ck t.un = 0
            · have q7 : (un.ck t.un != 0) = false := by simp [hk]
              have hI := Lib.hid (show okU t.un = (t.un.drop 0).all fun f => name f.1 by unfold okU; rw [decide_eq_true hk, Bool.true_and, List.drop_zero])
              replace hk := Lib.hid hk
              go_wp2_with fail
              have B9 := B4
              have G9 := G
              have S9 := S0
              clear d1 B4 G S0
              go_loopw [3] (fun vi wr => ∃ (j : Nat), vi = .int .i64 (j : Nat) ∧ Hid (j ≤ t.un.length) ∧ Hid (okU t.un = (t.un.drop j).all fun f => name f.1) ∧ Hid (Below w.heap.size w wr) ∧ Hid (un.Sl wr ua t.un.length uc t.un) ∧ Hid (Blk wr w.heap.size 36 #[.int .i64 t.k, .slice ua t.un.length uc, .string t.of])) (fun vi _ => t.un.length - (intOf vi).toNat)
              case atStart => exact ⟨0, rfl, Lib.hid (Nat.zero_le _), hI, B9, S9, G9⟩
              case round =>
                clear hI B9 S9 G9
                obtain ⟨j, rfl, hj, hI, hb, hS, G⟩ := hrel
                have d0 := G.out.cell 0
                have d1 := G.out.cell 1
                simp only [List.getElem?_toArray, List.getElem?_cons_zero, List.getElem?_cons_succ] at d0 d1
                by_cases hlt : j < t.un.length
                · have q1 : decide ((j : Int) < (t.un.length : Int)) = true := decide_eq_true (by omega)
                  obtain ⟨bk, off, rfl, hC⟩ := hS.out.hat.resolve_left (by omega)
                  obtain ⟨c0, c1⟩ := hC j hlt
                  have f4 := Lib.hid (next_at (j := j) (by have := hL.out; omega))
                  have i1 : (j : Int) < (t.un.length : Int) := by omega
                  replace hI := hI.out
                  rw [un.drop_gt hlt, List.all_cons] at hI
                  replace hI := Lib.hid hI
                  clear hC hj
                  generalize un.gt t.un j = x at *
                  go_wp2_with fail
                  refine (CM.out x.1 _).mono ?_
                  rintro e w21 ⟨rfl, b21⟩
                  have B21 := Lib.hid (bnext hb.out b21)
                  replace hS := Lib.hid (hS.out.keeps b21)
                  replace G := Lib.hid (G.out.keeps b21)
                  clear b21 c0 c1 d0 d1 hb
                  generalize name x.1 = q at *
                  cases q
                  · replace hE := hE.out
                    rw [if_neg (by rw [hI.out, Bool.false_and]; decide)] at hE
                    replace hE := Lib.hid hE
                    go_wp2_with fail
                    go_ret
                    exact nu_of (by rw [hE.out]) B21.out
                  · replace hI := Lib.hid (hI.out.trans (Bool.true_and _))
                    go_wp2_with fail
                    exact ⟨⟨j + 1, congrArg (Value.int .i64) f4.out, Lib.hid hlt, hI, B21, hS, G⟩, less_at hlt f4.out⟩
                · have q1 : decide ((j : Int) < (t.un.length : Int)) = false := decide_eq_false (by omega)
                  replace hI := hI.out
                  rw [List.drop_eq_nil_of_le (by omega), List.all_nil] at hI
                  replace hE := hE.out
                  rw [if_pos hI] at hE
                  replace hE := Lib.hid hE
                  clear hj hI
                  go_wp2_with fail
                  go_ret
                  exact nu_of (by rw [hE.out]) hb.out
            · have q7 : (un.ck t.un != 0) = true := by simp [hk]
              replace hE := hE.out
              rw [if_neg (by unfold okU; rw [decide_eq_false hk, Bool.false_and]; decide)] at hE
              replace hE := Lib.hid hE
              replace hk := Lib.hid hk
              go_wp2_with fail
              go_ret
              exact nu_of (by rw [hE.out]) B4.out
      · have q3 : (t.k == 5) = false := by simp [h3]
        have q4 : (t.k != 5) = true := by simp [h3]
        replace hE := hE.out
        rw [if_neg (fun h => h3 h.1)] at hE
        replace hE := Lib.hid hE
        by_cases h4 : t.of = .empty
        · have q5 : (!t.of.toList.isEmpty) = false := by simp only [eqE, h4, decide_true, Bool.not_true]
          replace hE := hE.out
          rw [if_neg (fun h => h.2 h4)] at hE
          replace hE := Lib.hid hE
          clear h4 CN
          go_enter Tryz.func19, Tryz.ntmps19
          go_wp2_with (first | (refine arm_loadT infTy Tryz.underlying36 rfl (.tmp 1) rfl rfl _ _ _ rfl G.out rfl ?_))
          refine (CI.out _).mono ?_
          rintro e w22 ⟨rfl, b22⟩
          have B22 := Lib.hid (bnext B0.out b22)
          replace S0 := Lib.hid (S0.out.keeps b22)
          replace G := Lib.hid (G.out.keeps b22)
          have c1 := G.out.cell 1
          simp only [List.getElem?_toArray, List.getElem?_cons_zero, List.getElem?_cons_succ] at c1
          clear b22 CI
          generalize num t = m at *
          cases m
          · by_cases hp : 0 < t.un.length
            · have q9 : decide (0 < (t.un.length : Int)) = true := decide_eq_true (by omega)
              replace hE := hE.out
              rw [if_pos ⟨rfl, hp⟩] at hE
              replace hE := Lib.hid hE
              go_wp2_with fail
              go_ret
              exact nu_of (by rw [hE.out]) B22.out
            · have q9 : decide (0 < (t.un.length : Int)) = false := decide_eq_false (by omega)
              replace hE := hE.out
              rw [if_neg (fun h => hp h.2)] at hE
              replace hE := Lib.hid hE
              go_wp2_with fail
              refine (CU.out _ S0.out).mono ?_
              rintro e w23 ⟨rfl, b23⟩
              have B23 := Lib.hid (bnext B22.out b23)
              replace S0 := Lib.hid (S0.out.keeps b23)
              replace G := Lib.hid (G.out.keeps b23)
              have d1 := G.out.cell 1
              simp only [List.getElem?_toArray, List.getElem?_cons_zero, List.getElem?_cons_succ] at d1
              clear b23 CU
              by_cases hk : un.ck t.un = 0
              · have q7 : (un.ck t.un != 0) = false := by simp [hk]
                have hI := Lib.hid (show okU t.un = (t.un.drop 0).all fun f => name f.1 by unfold okU; rw [decide_eq_true hk, Bool.true_and, List.drop_zero])
                replace hk := Lib.hid hk
                go_wp2_with fail
                have B9 := B23
                have G9 := G
                have S9 := S0
                clear d1 B23 G S0
                go_loopw [3] (fun vi wr => ∃ (j : Nat), vi = .int .i64 (j : Nat) ∧ Hid (j ≤ t.un.length) ∧ Hid (okU t.un = (t.un.drop j).all fun f => name f.1) ∧ Hid (Below w.heap.size w wr) ∧ Hid (un.Sl wr ua t.un.length uc t.un) ∧ Hid (Blk wr w.heap.size 36 #[.int .i64 t.k, .slice ua t.un.length uc, .string t.of])) (fun vi _ => t.un.length - (intOf vi).toNat)
                case atStart => exact ⟨0, rfl, Lib.hid (Nat.zero_le _), hI, B9, S9, G9⟩
                case round =>
                  clear hI B9 S9 G9
                  obtain ⟨j, rfl, hj, hI, hb, hS, G⟩ := hrel
                  have d0 := G.out.cell 0
                  have d1 := G.out.cell 1
                  simp only [List.getElem?_toArray, List.getElem?_cons_zero, List.getElem?_cons_succ] at d0 d1
                  by_cases hlt : j < t.un.length
                  · exfalso; omega
                  · have q1 : decide ((j : Int) < (t.un.length : Int)) = false := decide_eq_false (by omega)
                    replace hI := hI.out
                    rw [List.drop_eq_nil_of_le (by omega), List.all_nil] at hI
                    replace hE := hE.out
                    rw [if_pos hI] at hE
                    replace hE := Lib.hid hE
                    clear hj hI
                    go_wp2_with fail
                    go_ret
                    exact nu_of (by rw [hE.out]) hb.out
              · have q7 : (un.ck t.un != 0) = true := by simp [hk]
                replace hE := hE.out
                rw [if_neg (by unfold okU; rw [decide_eq_false hk, Bool.false_and]; decide)] at hE
                replace hE := Lib.hid hE
                replace hk := Lib.hid hk
                go_wp2_with fail
                go_ret
                exact nu_of (by rw [hE.out]) B23.out
          · replace hE := hE.out
            rw [if_neg (fun h => by cases h.1)] at hE
            replace hE := Lib.hid hE
            go_wp2_with fail
            refine (CU.out _ S0.out).mono ?_
            rintro e w24 ⟨rfl, b24⟩
            have B24 := Lib.hid (bnext B22.out b24)
            replace S0 := Lib.hid (S0.out.keeps b24)
            replace G := Lib.hid (G.out.keeps b24)
            have d1 := G.out.cell 1
            simp only [List.getElem?_toArray, List.getElem?_cons_zero, List.getElem?_cons_succ] at d1
            clear b24 CU
            by_cases hk : un.ck t.un = 0
            · have q7 : (un.ck t.un != 0) = false := by simp [hk]
              have hI := Lib.hid (show okU t.un = (t.un.drop 0).all fun f => name f.1 by unfold okU; rw [decide_eq_true hk, Bool.true_and, List.drop_zero])
              replace hk := Lib.hid hk
              go_wp2_with fail
              have B9 := B24
              have G9 := G
              have S9 := S0
              clear d1 B24 G S0
              go_loopw [3] (fun vi wr => ∃ (j : Nat), vi = .int .i64 (j : Nat) ∧ Hid (j ≤ t.un.length) ∧ Hid (okU t.un = (t.un.drop j).all fun f => name f.1) ∧ Hid (Below w.heap.size w wr) ∧ Hid (un.Sl wr ua t.un.length uc t.un) ∧ Hid (Blk wr w.heap.size 36 #[.int .i64 t.k, .slice ua t.un.length uc, .string t.of])) (fun vi _ => t.un.length - (intOf vi).toNat)
              case atStart => exact ⟨0, rfl, Lib.hid (Nat.zero_le _), hI, B9, S9, G9⟩
              case round =>
                clear hI B9 S9 G9
                obtain ⟨j, rfl, hj, hI, hb, hS, G⟩ := hrel
                have d0 := G.out.cell 0
                have d1 := G.out.cell 1
                simp only [List.getElem?_toArray, List.getElem?_cons_zero, List.getElem?_cons_succ] at d0 d1
                by_cases hlt : j < t.un.length
                · have q1 : decide ((j : Int) < (t.un.length : Int)) = true := decide_eq_true (by omega)
                  obtain ⟨bk, off, rfl, hC⟩ := hS.out.hat.resolve_left (by omega)
                  obtain ⟨c0, c1⟩ := hC j hlt
                  have f4 := Lib.hid (next_at (j := j) (by have := hL.out; omega))
                  have i1 : (j : Int) < (t.un.length : Int) := by omega
                  replace hI := hI.out
                  rw [un.drop_gt hlt, List.all_cons] at hI
                  replace hI := Lib.hid hI
                  clear hC hj
                  generalize un.gt t.un j = x at *
                  go_wp2_with fail
                  refine (CM.out x.1 _).mono ?_
                  rintro e w21 ⟨rfl, b21⟩
                  have B21 := Lib.hid (bnext hb.out b21)
                  replace hS := Lib.hid (hS.out.keeps b21)
                  replace G := Lib.hid (G.out.keeps b21)
                  clear b21 c0 c1 d0 d1 hb
                  generalize name x.1 = q at *
                  cases q
                  · replace hE := hE.out
                    rw [if_neg (by rw [hI.out, Bool.false_and]; decide)] at hE
                    replace hE := Lib.hid hE
                    go_wp2_with fail
                    go_ret
                    exact nu_of (by rw [hE.out]) B21.out
                  · replace hI := Lib.hid (hI.out.trans (Bool.true_and _))
                    go_wp2_with fail
                    exact ⟨⟨j + 1, congrArg (Value.int .i64) f4.out, Lib.hid hlt, hI, B21, hS, G⟩, less_at hlt f4.out⟩
                · have q1 : decide ((j : Int) < (t.un.length : Int)) = false := decide_eq_false (by omega)
                  replace hI := hI.out
                  rw [List.drop_eq_nil_of_le (by omega), List.all_nil] at hI
                  replace hE := hE.out
                  rw [if_pos hI] at hE
                  replace hE := Lib.hid hE
                  clear hj hI
                  go_wp2_with fail
                  go_ret
                  exact nu_of (by rw [hE.out]) hb.out
            · have q7 : (un.ck t.un != 0) = true := by simp [hk]
              replace hE := hE.out
              rw [if_neg (by unfold okU; rw [decide_eq_false hk, Bool.false_and]; decide)] at hE
              replace hE := Lib.hid hE
              replace hk := Lib.hid hk
              go_wp2_with fail
              go_ret
              exact nu_of (by rw [hE.out]) B24.out
        · have q5 : (!t.of.toList.isEmpty) = true := by simp only [eqE, h4, decide_false, Bool.not_false]
          replace hE := hE.out
          rw [if_pos ⟨h3, h4⟩] at hE
          replace hE := Lib.hid hE
          clear h4 CN CU CI
          go_enter Tryz.func19, Tryz.ntmps19
          go_wp2_with fail
          go_ret
          exact nu_of (by rw [hE.out]) B0.out
end Go.Proofs.YtbkpjhffmaldmaaGreatDoor.ch

/-
  The statement UnitsGroup, walked.
-/
import Derived.Test.YtcndlcogainnkaaGreatDoorExa
namespace Go.Proofs.YtcndlcogainnkaaGreatDoor
open Go.RowKit dec

set_option maxRecDepth 100000 in
set_option maxHeartbeats 4000000 in
theorem walk_group (a0 : Option Addr) (n0 c0 : Nat) (l : List Fa) (a1 : Option Addr) (n1 c1 : Nat) (r : List Fa) (a2 : Option Addr) (n2 c2 : Nat) (t : List Fa) (w : World) (hA : Sl w a0 n0 c0 l) (hB : Sl w a1 n1 c1 r) (hC : Sl w a2 n2 c2 t) (T : Tabs w) :
    Calls Tryz.prog 6 #[.slice a0 n0 c0, .slice a1 n1 c1, .slice a2 n2 c2] w fun e w' => e = .returned (.bool true) ∧ Below w.heap.size w w' := by
  have E0 := Lib.hid (example_any w T)
  have SA := Lib.hid hA
  have SB := Lib.hid hB
  have SC := Lib.hid hC
  have KA := Lib.hid (fun W h => check_any a0 n0 c0 l W h)
  have KB := Lib.hid (fun W h => check_any a1 n1 c1 r W h)
  have KC := Lib.hid (fun W h => check_any a2 n2 c2 t W h)
  clear hA hB hC T
  by_cases ha : ck l = 0
  · by_cases hb : ck r = 0
    · by_cases hc : ck t = 0
      · skip
        have okl := (ck_iff l).1 ha
        have okr := (ck_iff r).1 hb
        have okt := (ck_iff t).1 hc
        rw [ha] at KA
        rw [hb] at KB
        rw [hc] at KC
        have LA := Lib.hid SA.out.hn
        have TAB := Lib.hid (fun W h1 h2 => times_any a0 n0 c0 a1 n1 c1 l r W h1 h2)
        have TBA := Lib.hid (fun W h1 h2 => times_any a1 n1 c1 a0 n0 c0 r l W h1 h2)
        rw [← (c_comm okl okr).1, ← (c_comm okl okr).2] at TBA
        have TN := Lib.hid (fun W h1 => times_any a0 n0 c0 none 0 0 l [] W h1 (Sl.nil W))
        rw [(c_nil okl).1, (c_nil okl).2] at TN
        have SLL := Lib.hid (fun a c W h1 h2 => same_any a n0 c a0 n0 c0 l l W h1 h2)
        rw [show sameB l l = true from decide_eq_true rfl] at SLL
        have OAB := Lib.hid (fun W h1 h2 => over_any a0 n0 c0 a1 n1 c1 l r W h1 h2)
        have TBC := Lib.hid (fun W h1 h2 => times_any a1 n1 c1 a2 n2 c2 r t W h1 h2)
        obtain ⟨kp, hkp⟩ : ∃ k, (cL 1 l r).length = k := ⟨_, rfl⟩
        obtain ⟨kq, hkq⟩ : ∃ k, (cL (-1) l r).length = k := ⟨_, rfl⟩
        obtain ⟨kg, hkg⟩ : ∃ k, (cL 1 r t).length = k := ⟨_, rfl⟩
        have LP := Lib.hid hkp
        have LQ := Lib.hid hkq
        have LG := Lib.hid hkg
        have SPP := Lib.hid (fun a c b d W h1 h2 => same_any a kp c b kp d (cL 1 l r) (cL 1 l r) W h1 h2)
        rw [show sameB (cL 1 l r) (cL 1 l r) = true from decide_eq_true rfl] at SPP
        have OB := Lib.hid (fun (hp : cE 1 l r = 0) a c W h1 h2 => (show _ from by have := over_any a kp c a1 n1 c1 (cL 1 l r) r W h1 h2; rw [(c_back hp).1, (c_back hp).2] at this; exact this))
        have TQ := Lib.hid (fun (hq : cE (-1) l r = 0) a c W h1 h2 => (show _ from by have := times_any a kq c a1 n1 c1 (cL (-1) l r) r W h1 h2; rw [(c_back2 hq).1, (c_back2 hq).2] at this; exact this))
        have TX := Lib.hid (fun a c W h1 h2 => times_any a kp c a2 n2 c2 (cL 1 l r) t W h1 h2)
        have TY := Lib.hid (fun (hp : cE 1 l r = 0) (hg : cE 1 r t = 0) a c W h1 h2 => (show _ from by have := times_any a0 n0 c0 a kg c l (cL 1 r t) W h1 h2; rw [← (c_assoc hp hg).1, ← (c_assoc hp hg).2] at this; exact this))
        obtain ⟨kx, hkx⟩ : ∃ k, (cL 1 (cL 1 l r) t).length = k := ⟨_, rfl⟩
        have LX := Lib.hid hkx
        have SXX := Lib.hid (fun a c b d W h1 h2 => same_any a kx c b kx d (cL 1 (cL 1 l r) t) (cL 1 (cL 1 l r) t) W h1 h2)
        rw [show sameB (cL 1 (cL 1 l r) t) (cL 1 (cL 1 l r) t) = true from decide_eq_true rfl] at SXX
        clear hkp hkq hkg hkx okl okr okt ha hb hc
        generalize cL 1 (cL 1 l r) t = lx at *
        generalize cE 1 (cL 1 l r) t = h at *
        generalize cL 1 l r = lp at *
        generalize cL (-1) l r = lq at *
        generalize cL 1 r t = lg at *
        generalize cE 1 l r = p at *
        generalize cE (-1) l r = q at *
        generalize cE 1 r t = g at *
        by_cases hp : p = 0
        · skip
          by_cases hq : q = 0
          · skip
            by_cases hg : g = 0
            · skip
              replace TY := Lib.hid (fun a c W h1 h2 => TY.out hp hg a c W h1 h2)
              replace OB := Lib.hid (fun a c W h1 h2 => OB.out hp a c W h1 h2)
              replace TQ := Lib.hid (fun a c W h1 h2 => TQ.out hq a c W h1 h2)
              have qp : (p == 0) = true := beq_iff_eq.2 hp
              have qp2 : (p != 0) = false := by rw [bne, qp]; rfl
              have qq : (q == 0) = true := beq_iff_eq.2 hq
              have qg : (g == 0) = true := beq_iff_eq.2 hg
              have qg2 : (g != 0) = false := by rw [bne, qg]; rfl
              clear hp hq hg
              go_enter Tryz.func6, Tryz.ntmps6
              go_wp2_with fail
              refine (E0.out).mono ?_
              rintro e z1 ⟨rfl, bX⟩
              replace SA := Lib.hid (SA.out.keeps bX)
              replace SB := Lib.hid (SB.out.keeps bX)
              replace SC := Lib.hid (SC.out.keeps bX)
              have BB1 := Lib.hid bX
              clear bX
              go_wp2_with fail
              refine (KA.out _ SA.out).mono ?_
              rintro e z2 ⟨rfl, bX⟩
              replace SA := Lib.hid (SA.out.keeps bX)
              replace SB := Lib.hid (SB.out.keeps bX)
              replace SC := Lib.hid (SC.out.keeps bX)
              have BB2 := Lib.hid (bnext BB1.out bX)
              clear bX
              go_wp2_with fail
              refine (KB.out _ SB.out).mono ?_
              rintro e z3 ⟨rfl, bX⟩
              replace SA := Lib.hid (SA.out.keeps bX)
              replace SB := Lib.hid (SB.out.keeps bX)
              replace SC := Lib.hid (SC.out.keeps bX)
              have BB3 := Lib.hid (bnext BB2.out bX)
              clear bX
              go_wp2_with fail
              refine (KC.out _ SC.out).mono ?_
              rintro e z4 ⟨rfl, bX⟩
              replace SA := Lib.hid (SA.out.keeps bX)
              replace SB := Lib.hid (SB.out.keeps bX)
              replace SC := Lib.hid (SC.out.keeps bX)
              have BB4 := Lib.hid (bnext BB3.out bX)
              clear bX
              go_wp2_with fail
              refine (TAB.out _ SA.out SB.out).mono ?_
              rintro e z5 ⟨v, rfl, oX, bX⟩
              obtain ⟨aa5, cc5, rfl, sX⟩ := oX.ou LP.out
              replace SA := Lib.hid (SA.out.keeps bX)
              replace SB := Lib.hid (SB.out.keeps bX)
              replace SC := Lib.hid (SC.out.keeps bX)
              have BB5 := Lib.hid (bnext BB4.out bX)
              clear bX
              have RAB := Lib.hid sX
              clear sX
              clear oX
              go_wp2_with fail
              refine (TBA.out _ SB.out SA.out).mono ?_
              rintro e z6 ⟨v, rfl, oX, bX⟩
              obtain ⟨aa6, cc6, rfl, sX⟩ := oX.ou LP.out
              replace SA := Lib.hid (SA.out.keeps bX)
              replace SB := Lib.hid (SB.out.keeps bX)
              replace SC := Lib.hid (SC.out.keeps bX)
              replace RAB := Lib.hid (RAB.out.keeps bX)
              have BB6 := Lib.hid (bnext BB5.out bX)
              clear bX
              have RBA := Lib.hid sX
              clear sX
              clear oX
              go_wp2_with fail
              refine (TN.out _ SA.out).mono ?_
              rintro e z7 ⟨v, rfl, oX, bX⟩
              obtain ⟨aa7, cc7, rfl, sX⟩ := oX.ou LA.out
              replace SA := Lib.hid (SA.out.keeps bX)
              replace SB := Lib.hid (SB.out.keeps bX)
              replace SC := Lib.hid (SC.out.keeps bX)
              replace RAB := Lib.hid (RAB.out.keeps bX)
              replace RBA := Lib.hid (RBA.out.keeps bX)
              have BB7 := Lib.hid (bnext BB6.out bX)
              clear bX
              have RN := Lib.hid sX
              clear sX
              clear oX
              go_wp2_with fail
              refine (SPP.out _ _ _ _ _ RAB.out RBA.out).mono ?_
              rintro e z8 ⟨rfl, bX⟩
              replace SA := Lib.hid (SA.out.keeps bX)
              replace SB := Lib.hid (SB.out.keeps bX)
              replace SC := Lib.hid (SC.out.keeps bX)
              replace RAB := Lib.hid (RAB.out.keeps bX)
              replace RBA := Lib.hid (RBA.out.keeps bX)
              replace RN := Lib.hid (RN.out.keeps bX)
              have BB8 := Lib.hid (bnext BB7.out bX)
              clear bX
              go_wp2_with fail
              refine (SLL.out _ _ _ RN.out SA.out).mono ?_
              rintro e z9 ⟨rfl, bX⟩
              replace SA := Lib.hid (SA.out.keeps bX)
              replace SB := Lib.hid (SB.out.keeps bX)
              replace SC := Lib.hid (SC.out.keeps bX)
              replace RAB := Lib.hid (RAB.out.keeps bX)
              replace RBA := Lib.hid (RBA.out.keeps bX)
              replace RN := Lib.hid (RN.out.keeps bX)
              have BB9 := Lib.hid (bnext BB8.out bX)
              clear bX
              go_wp2_with fail
              refine (OB.out _ _ _ RAB.out SB.out).mono ?_
              rintro e z10 ⟨v, rfl, oX, bX⟩
              obtain ⟨aa10, cc10, rfl, sX⟩ := oX.ou LA.out
              replace SA := Lib.hid (SA.out.keeps bX)
              replace SB := Lib.hid (SB.out.keeps bX)
              replace SC := Lib.hid (SC.out.keeps bX)
              replace RAB := Lib.hid (RAB.out.keeps bX)
              have BB10 := Lib.hid (bnext BB9.out bX)
              clear bX
              have RO := Lib.hid sX
              clear sX
              clear oX
              go_wp2_with fail
              refine (SLL.out _ _ _ RO.out SA.out).mono ?_
              rintro e z11 ⟨rfl, bX⟩
              replace SA := Lib.hid (SA.out.keeps bX)
              replace SB := Lib.hid (SB.out.keeps bX)
              replace SC := Lib.hid (SC.out.keeps bX)
              replace RAB := Lib.hid (RAB.out.keeps bX)
              replace RO := Lib.hid (RO.out.keeps bX)
              have BB11 := Lib.hid (bnext BB10.out bX)
              clear bX
              go_wp2_with fail
              refine (OAB.out _ SA.out SB.out).mono ?_
              rintro e z12 ⟨v, rfl, oX, bX⟩
              obtain ⟨aa12, cc12, rfl, sX⟩ := oX.ou LQ.out
              replace SA := Lib.hid (SA.out.keeps bX)
              replace SB := Lib.hid (SB.out.keeps bX)
              replace SC := Lib.hid (SC.out.keeps bX)
              replace RAB := Lib.hid (RAB.out.keeps bX)
              have BB12 := Lib.hid (bnext BB11.out bX)
              clear bX
              have RQ := Lib.hid sX
              clear sX
              clear oX
              go_wp2_with fail
              refine (TQ.out _ _ _ RQ.out SB.out).mono ?_
              rintro e z13 ⟨v, rfl, oX, bX⟩
              obtain ⟨aa13, cc13, rfl, sX⟩ := oX.ou LA.out
              replace SA := Lib.hid (SA.out.keeps bX)
              replace SB := Lib.hid (SB.out.keeps bX)
              replace SC := Lib.hid (SC.out.keeps bX)
              replace RAB := Lib.hid (RAB.out.keeps bX)
              replace RQ := Lib.hid (RQ.out.keeps bX)
              have BB13 := Lib.hid (bnext BB12.out bX)
              clear bX
              have RT := Lib.hid sX
              clear sX
              clear oX
              go_wp2_with fail
              refine (SLL.out _ _ _ RT.out SA.out).mono ?_
              rintro e z14 ⟨rfl, bX⟩
              replace SA := Lib.hid (SA.out.keeps bX)
              replace SB := Lib.hid (SB.out.keeps bX)
              replace SC := Lib.hid (SC.out.keeps bX)
              replace RAB := Lib.hid (RAB.out.keeps bX)
              replace RQ := Lib.hid (RQ.out.keeps bX)
              replace RT := Lib.hid (RT.out.keeps bX)
              have BB14 := Lib.hid (bnext BB13.out bX)
              clear bX
              go_wp2_with fail
              refine (TBC.out _ SB.out SC.out).mono ?_
              rintro e z15 ⟨v, rfl, oX, bX⟩
              obtain ⟨aa15, cc15, rfl, sX⟩ := oX.ou LG.out
              replace SA := Lib.hid (SA.out.keeps bX)
              replace SB := Lib.hid (SB.out.keeps bX)
              replace SC := Lib.hid (SC.out.keeps bX)
              replace RAB := Lib.hid (RAB.out.keeps bX)
              have BB15 := Lib.hid (bnext BB14.out bX)
              clear bX
              have RBC := Lib.hid sX
              clear sX
              clear oX
              go_wp2_with fail
              refine (TX.out _ _ _ RAB.out SC.out).mono ?_
              rintro e z16 ⟨v, rfl, oX, bX⟩
              obtain ⟨aa16, cc16, rfl, sX⟩ := oX.ou LX.out
              replace SA := Lib.hid (SA.out.keeps bX)
              replace SB := Lib.hid (SB.out.keeps bX)
              replace SC := Lib.hid (SC.out.keeps bX)
              replace RAB := Lib.hid (RAB.out.keeps bX)
              replace RBC := Lib.hid (RBC.out.keeps bX)
              have BB16 := Lib.hid (bnext BB15.out bX)
              clear bX
              have RX := Lib.hid sX
              clear sX
              clear oX
              go_wp2_with fail
              refine (TY.out _ _ _ SA.out RBC.out).mono ?_
              rintro e z17 ⟨v, rfl, oX, bX⟩
              obtain ⟨aa17, cc17, rfl, sX⟩ := oX.ou LX.out
              replace SA := Lib.hid (SA.out.keeps bX)
              replace SB := Lib.hid (SB.out.keeps bX)
              replace SC := Lib.hid (SC.out.keeps bX)
              replace RAB := Lib.hid (RAB.out.keeps bX)
              replace RBC := Lib.hid (RBC.out.keeps bX)
              replace RX := Lib.hid (RX.out.keeps bX)
              have BB17 := Lib.hid (bnext BB16.out bX)
              clear bX
              have RY := Lib.hid sX
              clear sX
              clear oX
              go_wp2_with fail
              refine (SXX.out _ _ _ _ _ RX.out RY.out).mono ?_
              rintro e z18 ⟨rfl, bX⟩
              replace SA := Lib.hid (SA.out.keeps bX)
              replace SB := Lib.hid (SB.out.keeps bX)
              replace SC := Lib.hid (SC.out.keeps bX)
              replace RAB := Lib.hid (RAB.out.keeps bX)
              replace RBC := Lib.hid (RBC.out.keeps bX)
              replace RX := Lib.hid (RX.out.keeps bX)
              replace RY := Lib.hid (RY.out.keeps bX)
              have BB18 := Lib.hid (bnext BB17.out bX)
              clear bX
              go_wp2_with fail
              go_ret
              exact ⟨rfl, BB18.out⟩
            · skip
              clear TY
              replace OB := Lib.hid (fun a c W h1 h2 => OB.out hp a c W h1 h2)
              replace TQ := Lib.hid (fun a c W h1 h2 => TQ.out hq a c W h1 h2)
              have qp : (p == 0) = true := beq_iff_eq.2 hp
              have qp2 : (p != 0) = false := by rw [bne, qp]; rfl
              have qq : (q == 0) = true := beq_iff_eq.2 hq
              have qg : (g == 0) = false := beq_eq_false_iff_ne.2 hg
              have qg2 : (g != 0) = true := by rw [bne, qg]; rfl
              clear hp hq hg
              go_enter Tryz.func6, Tryz.ntmps6
              go_wp2_with fail
              refine (E0.out).mono ?_
              rintro e z1 ⟨rfl, bX⟩
              replace SA := Lib.hid (SA.out.keeps bX)
              replace SB := Lib.hid (SB.out.keeps bX)
              replace SC := Lib.hid (SC.out.keeps bX)
              have BB1 := Lib.hid bX
              clear bX
              go_wp2_with fail
              refine (KA.out _ SA.out).mono ?_
              rintro e z2 ⟨rfl, bX⟩
              replace SA := Lib.hid (SA.out.keeps bX)
              replace SB := Lib.hid (SB.out.keeps bX)
              replace SC := Lib.hid (SC.out.keeps bX)
              have BB2 := Lib.hid (bnext BB1.out bX)
              clear bX
              go_wp2_with fail
              refine (KB.out _ SB.out).mono ?_
              rintro e z3 ⟨rfl, bX⟩
              replace SA := Lib.hid (SA.out.keeps bX)
              replace SB := Lib.hid (SB.out.keeps bX)
              replace SC := Lib.hid (SC.out.keeps bX)
              have BB3 := Lib.hid (bnext BB2.out bX)
              clear bX
              go_wp2_with fail
              refine (KC.out _ SC.out).mono ?_
              rintro e z4 ⟨rfl, bX⟩
              replace SA := Lib.hid (SA.out.keeps bX)
              replace SB := Lib.hid (SB.out.keeps bX)
              replace SC := Lib.hid (SC.out.keeps bX)
              have BB4 := Lib.hid (bnext BB3.out bX)
              clear bX
              go_wp2_with fail
              refine (TAB.out _ SA.out SB.out).mono ?_
              rintro e z5 ⟨v, rfl, oX, bX⟩
              obtain ⟨aa5, cc5, rfl, sX⟩ := oX.ou LP.out
              replace SA := Lib.hid (SA.out.keeps bX)
              replace SB := Lib.hid (SB.out.keeps bX)
              replace SC := Lib.hid (SC.out.keeps bX)
              have BB5 := Lib.hid (bnext BB4.out bX)
              clear bX
              have RAB := Lib.hid sX
              clear sX
              clear oX
              go_wp2_with fail
              refine (TBA.out _ SB.out SA.out).mono ?_
              rintro e z6 ⟨v, rfl, oX, bX⟩
              obtain ⟨aa6, cc6, rfl, sX⟩ := oX.ou LP.out
              replace SA := Lib.hid (SA.out.keeps bX)
              replace SB := Lib.hid (SB.out.keeps bX)
              replace SC := Lib.hid (SC.out.keeps bX)
              replace RAB := Lib.hid (RAB.out.keeps bX)
              have BB6 := Lib.hid (bnext BB5.out bX)
              clear bX
              have RBA := Lib.hid sX
              clear sX
              clear oX
              go_wp2_with fail
              refine (TN.out _ SA.out).mono ?_
              rintro e z7 ⟨v, rfl, oX, bX⟩
              obtain ⟨aa7, cc7, rfl, sX⟩ := oX.ou LA.out
              replace SA := Lib.hid (SA.out.keeps bX)
              replace SB := Lib.hid (SB.out.keeps bX)
              replace SC := Lib.hid (SC.out.keeps bX)
              replace RAB := Lib.hid (RAB.out.keeps bX)
              replace RBA := Lib.hid (RBA.out.keeps bX)
              have BB7 := Lib.hid (bnext BB6.out bX)
              clear bX
              have RN := Lib.hid sX
              clear sX
              clear oX
              go_wp2_with fail
              refine (SPP.out _ _ _ _ _ RAB.out RBA.out).mono ?_
              rintro e z8 ⟨rfl, bX⟩
              replace SA := Lib.hid (SA.out.keeps bX)
              replace SB := Lib.hid (SB.out.keeps bX)
              replace SC := Lib.hid (SC.out.keeps bX)
              replace RAB := Lib.hid (RAB.out.keeps bX)
              replace RBA := Lib.hid (RBA.out.keeps bX)
              replace RN := Lib.hid (RN.out.keeps bX)
              have BB8 := Lib.hid (bnext BB7.out bX)
              clear bX
              go_wp2_with fail
              refine (SLL.out _ _ _ RN.out SA.out).mono ?_
              rintro e z9 ⟨rfl, bX⟩
              replace SA := Lib.hid (SA.out.keeps bX)
              replace SB := Lib.hid (SB.out.keeps bX)
              replace SC := Lib.hid (SC.out.keeps bX)
              replace RAB := Lib.hid (RAB.out.keeps bX)
              replace RBA := Lib.hid (RBA.out.keeps bX)
              replace RN := Lib.hid (RN.out.keeps bX)
              have BB9 := Lib.hid (bnext BB8.out bX)
              clear bX
              go_wp2_with fail
              refine (OB.out _ _ _ RAB.out SB.out).mono ?_
              rintro e z10 ⟨v, rfl, oX, bX⟩
              obtain ⟨aa10, cc10, rfl, sX⟩ := oX.ou LA.out
              replace SA := Lib.hid (SA.out.keeps bX)
              replace SB := Lib.hid (SB.out.keeps bX)
              replace SC := Lib.hid (SC.out.keeps bX)
              replace RAB := Lib.hid (RAB.out.keeps bX)
              have BB10 := Lib.hid (bnext BB9.out bX)
              clear bX
              have RO := Lib.hid sX
              clear sX
              clear oX
              go_wp2_with fail
              refine (SLL.out _ _ _ RO.out SA.out).mono ?_
              rintro e z11 ⟨rfl, bX⟩
              replace SA := Lib.hid (SA.out.keeps bX)
              replace SB := Lib.hid (SB.out.keeps bX)
              replace SC := Lib.hid (SC.out.keeps bX)
              replace RAB := Lib.hid (RAB.out.keeps bX)
              replace RO := Lib.hid (RO.out.keeps bX)
              have BB11 := Lib.hid (bnext BB10.out bX)
              clear bX
              go_wp2_with fail
              refine (OAB.out _ SA.out SB.out).mono ?_
              rintro e z12 ⟨v, rfl, oX, bX⟩
              obtain ⟨aa12, cc12, rfl, sX⟩ := oX.ou LQ.out
              replace SA := Lib.hid (SA.out.keeps bX)
              replace SB := Lib.hid (SB.out.keeps bX)
              replace SC := Lib.hid (SC.out.keeps bX)
              replace RAB := Lib.hid (RAB.out.keeps bX)
              have BB12 := Lib.hid (bnext BB11.out bX)
              clear bX
              have RQ := Lib.hid sX
              clear sX
              clear oX
              go_wp2_with fail
              refine (TQ.out _ _ _ RQ.out SB.out).mono ?_
              rintro e z13 ⟨v, rfl, oX, bX⟩
              obtain ⟨aa13, cc13, rfl, sX⟩ := oX.ou LA.out
              replace SA := Lib.hid (SA.out.keeps bX)
              replace SB := Lib.hid (SB.out.keeps bX)
              replace SC := Lib.hid (SC.out.keeps bX)
              replace RAB := Lib.hid (RAB.out.keeps bX)
              replace RQ := Lib.hid (RQ.out.keeps bX)
              have BB13 := Lib.hid (bnext BB12.out bX)
              clear bX
              have RT := Lib.hid sX
              clear sX
              clear oX
              go_wp2_with fail
              refine (SLL.out _ _ _ RT.out SA.out).mono ?_
              rintro e z14 ⟨rfl, bX⟩
              replace SA := Lib.hid (SA.out.keeps bX)
              replace SB := Lib.hid (SB.out.keeps bX)
              replace SC := Lib.hid (SC.out.keeps bX)
              replace RAB := Lib.hid (RAB.out.keeps bX)
              replace RQ := Lib.hid (RQ.out.keeps bX)
              replace RT := Lib.hid (RT.out.keeps bX)
              have BB14 := Lib.hid (bnext BB13.out bX)
              clear bX
              go_wp2_with fail
              refine (TBC.out _ SB.out SC.out).mono ?_
              rintro e z15 ⟨v, rfl, oX, bX⟩
              obtain ⟨aa15, cc15, rfl, sX⟩ := oX.ou LG.out
              replace SA := Lib.hid (SA.out.keeps bX)
              replace SB := Lib.hid (SB.out.keeps bX)
              replace SC := Lib.hid (SC.out.keeps bX)
              replace RAB := Lib.hid (RAB.out.keeps bX)
              have BB15 := Lib.hid (bnext BB14.out bX)
              clear bX
              have RBC := Lib.hid sX
              clear sX
              clear oX
              go_wp2_with fail
              go_ret
              exact ⟨rfl, BB15.out⟩
          · skip
            by_cases hg : g = 0
            · skip
              replace TY := Lib.hid (fun a c W h1 h2 => TY.out hp hg a c W h1 h2)
              replace OB := Lib.hid (fun a c W h1 h2 => OB.out hp a c W h1 h2)
              clear TQ
              have qp : (p == 0) = true := beq_iff_eq.2 hp
              have qp2 : (p != 0) = false := by rw [bne, qp]; rfl
              have qq : (q == 0) = false := beq_eq_false_iff_ne.2 hq
              have qg : (g == 0) = true := beq_iff_eq.2 hg
              have qg2 : (g != 0) = false := by rw [bne, qg]; rfl
              clear hp hq hg
              go_enter Tryz.func6, Tryz.ntmps6
              go_wp2_with fail
              refine (E0.out).mono ?_
              rintro e z1 ⟨rfl, bX⟩
              replace SA := Lib.hid (SA.out.keeps bX)
              replace SB := Lib.hid (SB.out.keeps bX)
              replace SC := Lib.hid (SC.out.keeps bX)
              have BB1 := Lib.hid bX
              clear bX
              go_wp2_with fail
              refine (KA.out _ SA.out).mono ?_
              rintro e z2 ⟨rfl, bX⟩
              replace SA := Lib.hid (SA.out.keeps bX)
              replace SB := Lib.hid (SB.out.keeps bX)
              replace SC := Lib.hid (SC.out.keeps bX)
              have BB2 := Lib.hid (bnext BB1.out bX)
              clear bX
              go_wp2_with fail
              refine (KB.out _ SB.out).mono ?_
              rintro e z3 ⟨rfl, bX⟩
              replace SA := Lib.hid (SA.out.keeps bX)
              replace SB := Lib.hid (SB.out.keeps bX)
              replace SC := Lib.hid (SC.out.keeps bX)
              have BB3 := Lib.hid (bnext BB2.out bX)
              clear bX
              go_wp2_with fail
              refine (KC.out _ SC.out).mono ?_
              rintro e z4 ⟨rfl, bX⟩
              replace SA := Lib.hid (SA.out.keeps bX)
              replace SB := Lib.hid (SB.out.keeps bX)
              replace SC := Lib.hid (SC.out.keeps bX)
              have BB4 := Lib.hid (bnext BB3.out bX)
              clear bX
              go_wp2_with fail
              refine (TAB.out _ SA.out SB.out).mono ?_
              rintro e z5 ⟨v, rfl, oX, bX⟩
              obtain ⟨aa5, cc5, rfl, sX⟩ := oX.ou LP.out
              replace SA := Lib.hid (SA.out.keeps bX)
              replace SB := Lib.hid (SB.out.keeps bX)
              replace SC := Lib.hid (SC.out.keeps bX)
              have BB5 := Lib.hid (bnext BB4.out bX)
              clear bX
              have RAB := Lib.hid sX
              clear sX
              clear oX
              go_wp2_with fail
              refine (TBA.out _ SB.out SA.out).mono ?_
              rintro e z6 ⟨v, rfl, oX, bX⟩
              obtain ⟨aa6, cc6, rfl, sX⟩ := oX.ou LP.out
              replace SA := Lib.hid (SA.out.keeps bX)
              replace SB := Lib.hid (SB.out.keeps bX)
              replace SC := Lib.hid (SC.out.keeps bX)
              replace RAB := Lib.hid (RAB.out.keeps bX)
              have BB6 := Lib.hid (bnext BB5.out bX)
              clear bX
              have RBA := Lib.hid sX
              clear sX
              clear oX
              go_wp2_with fail
              refine (TN.out _ SA.out).mono ?_
              rintro e z7 ⟨v, rfl, oX, bX⟩
              obtain ⟨aa7, cc7, rfl, sX⟩ := oX.ou LA.out
              replace SA := Lib.hid (SA.out.keeps bX)
              replace SB := Lib.hid (SB.out.keeps bX)
              replace SC := Lib.hid (SC.out.keeps bX)
              replace RAB := Lib.hid (RAB.out.keeps bX)
              replace RBA := Lib.hid (RBA.out.keeps bX)
              have BB7 := Lib.hid (bnext BB6.out bX)
              clear bX
              have RN := Lib.hid sX
              clear sX
              clear oX
              go_wp2_with fail
              refine (SPP.out _ _ _ _ _ RAB.out RBA.out).mono ?_
              rintro e z8 ⟨rfl, bX⟩
              replace SA := Lib.hid (SA.out.keeps bX)
              replace SB := Lib.hid (SB.out.keeps bX)
              replace SC := Lib.hid (SC.out.keeps bX)
              replace RAB := Lib.hid (RAB.out.keeps bX)
              replace RBA := Lib.hid (RBA.out.keeps bX)
              replace RN := Lib.hid (RN.out.keeps bX)
              have BB8 := Lib.hid (bnext BB7.out bX)
              clear bX
              go_wp2_with fail
              refine (SLL.out _ _ _ RN.out SA.out).mono ?_
              rintro e z9 ⟨rfl, bX⟩
              replace SA := Lib.hid (SA.out.keeps bX)
              replace SB := Lib.hid (SB.out.keeps bX)
              replace SC := Lib.hid (SC.out.keeps bX)
              replace RAB := Lib.hid (RAB.out.keeps bX)
              replace RBA := Lib.hid (RBA.out.keeps bX)
              replace RN := Lib.hid (RN.out.keeps bX)
              have BB9 := Lib.hid (bnext BB8.out bX)
              clear bX
              go_wp2_with fail
              refine (OB.out _ _ _ RAB.out SB.out).mono ?_
              rintro e z10 ⟨v, rfl, oX, bX⟩
              obtain ⟨aa10, cc10, rfl, sX⟩ := oX.ou LA.out
              replace SA := Lib.hid (SA.out.keeps bX)
              replace SB := Lib.hid (SB.out.keeps bX)
              replace SC := Lib.hid (SC.out.keeps bX)
              replace RAB := Lib.hid (RAB.out.keeps bX)
              have BB10 := Lib.hid (bnext BB9.out bX)
              clear bX
              have RO := Lib.hid sX
              clear sX
              clear oX
              go_wp2_with fail
              refine (SLL.out _ _ _ RO.out SA.out).mono ?_
              rintro e z11 ⟨rfl, bX⟩
              replace SA := Lib.hid (SA.out.keeps bX)
              replace SB := Lib.hid (SB.out.keeps bX)
              replace SC := Lib.hid (SC.out.keeps bX)
              replace RAB := Lib.hid (RAB.out.keeps bX)
              replace RO := Lib.hid (RO.out.keeps bX)
              have BB11 := Lib.hid (bnext BB10.out bX)
              clear bX
              go_wp2_with fail
              refine (OAB.out _ SA.out SB.out).mono ?_
              rintro e z12 ⟨v, rfl, oX, bX⟩
              obtain ⟨aa12, cc12, rfl, sX⟩ := oX.ou LQ.out
              replace SA := Lib.hid (SA.out.keeps bX)
              replace SB := Lib.hid (SB.out.keeps bX)
              replace SC := Lib.hid (SC.out.keeps bX)
              replace RAB := Lib.hid (RAB.out.keeps bX)
              have BB12 := Lib.hid (bnext BB11.out bX)
              clear bX
              have RQ := Lib.hid sX
              clear sX
              clear oX
              go_wp2_with fail
              refine (TBC.out _ SB.out SC.out).mono ?_
              rintro e z13 ⟨v, rfl, oX, bX⟩
              obtain ⟨aa13, cc13, rfl, sX⟩ := oX.ou LG.out
              replace SA := Lib.hid (SA.out.keeps bX)
              replace SB := Lib.hid (SB.out.keeps bX)
              replace SC := Lib.hid (SC.out.keeps bX)
              replace RAB := Lib.hid (RAB.out.keeps bX)
              have BB13 := Lib.hid (bnext BB12.out bX)
              clear bX
              have RBC := Lib.hid sX
              clear sX
              clear oX
              go_wp2_with fail
              refine (TX.out _ _ _ RAB.out SC.out).mono ?_
              rintro e z14 ⟨v, rfl, oX, bX⟩
              obtain ⟨aa14, cc14, rfl, sX⟩ := oX.ou LX.out
              replace SA := Lib.hid (SA.out.keeps bX)
              replace SB := Lib.hid (SB.out.keeps bX)
              replace SC := Lib.hid (SC.out.keeps bX)
              replace RAB := Lib.hid (RAB.out.keeps bX)
              replace RBC := Lib.hid (RBC.out.keeps bX)
              have BB14 := Lib.hid (bnext BB13.out bX)
              clear bX
              have RX := Lib.hid sX
              clear sX
              clear oX
              go_wp2_with fail
              refine (TY.out _ _ _ SA.out RBC.out).mono ?_
              rintro e z15 ⟨v, rfl, oX, bX⟩
              obtain ⟨aa15, cc15, rfl, sX⟩ := oX.ou LX.out
              replace SA := Lib.hid (SA.out.keeps bX)
              replace SB := Lib.hid (SB.out.keeps bX)
              replace SC := Lib.hid (SC.out.keeps bX)
              replace RAB := Lib.hid (RAB.out.keeps bX)
              replace RBC := Lib.hid (RBC.out.keeps bX)
              replace RX := Lib.hid (RX.out.keeps bX)
              have BB15 := Lib.hid (bnext BB14.out bX)
              clear bX
              have RY := Lib.hid sX
              clear sX
              clear oX
              go_wp2_with fail
              refine (SXX.out _ _ _ _ _ RX.out RY.out).mono ?_
              rintro e z16 ⟨rfl, bX⟩
              replace SA := Lib.hid (SA.out.keeps bX)
              replace SB := Lib.hid (SB.out.keeps bX)
              replace SC := Lib.hid (SC.out.keeps bX)
              replace RAB := Lib.hid (RAB.out.keeps bX)
              replace RBC := Lib.hid (RBC.out.keeps bX)
              replace RX := Lib.hid (RX.out.keeps bX)
              replace RY := Lib.hid (RY.out.keeps bX)
              have BB16 := Lib.hid (bnext BB15.out bX)
              clear bX
              go_wp2_with fail
              go_ret
              exact ⟨rfl, BB16.out⟩
            · skip
              clear TY
              replace OB := Lib.hid (fun a c W h1 h2 => OB.out hp a c W h1 h2)
              clear TQ
              have qp : (p == 0) = true := beq_iff_eq.2 hp
              have qp2 : (p != 0) = false := by rw [bne, qp]; rfl
              have qq : (q == 0) = false := beq_eq_false_iff_ne.2 hq
              have qg : (g == 0) = false := beq_eq_false_iff_ne.2 hg
              have qg2 : (g != 0) = true := by rw [bne, qg]; rfl
              clear hp hq hg
              go_enter Tryz.func6, Tryz.ntmps6
              go_wp2_with fail
              refine (E0.out).mono ?_
              rintro e z1 ⟨rfl, bX⟩
              replace SA := Lib.hid (SA.out.keeps bX)
              replace SB := Lib.hid (SB.out.keeps bX)
              replace SC := Lib.hid (SC.out.keeps bX)
              have BB1 := Lib.hid bX
              clear bX
              go_wp2_with fail
              refine (KA.out _ SA.out).mono ?_
              rintro e z2 ⟨rfl, bX⟩
              replace SA := Lib.hid (SA.out.keeps bX)
              replace SB := Lib.hid (SB.out.keeps bX)
              replace SC := Lib.hid (SC.out.keeps bX)
              have BB2 := Lib.hid (bnext BB1.out bX)
              clear bX
              go_wp2_with fail
              refine (KB.out _ SB.out).mono ?_
              rintro e z3 ⟨rfl, bX⟩
              replace SA := Lib.hid (SA.out.keeps bX)
              replace SB := Lib.hid (SB.out.keeps bX)
              replace SC := Lib.hid (SC.out.keeps bX)
              have BB3 := Lib.hid (bnext BB2.out bX)
              clear bX
              go_wp2_with fail
              refine (KC.out _ SC.out).mono ?_
              rintro e z4 ⟨rfl, bX⟩
              replace SA := Lib.hid (SA.out.keeps bX)
              replace SB := Lib.hid (SB.out.keeps bX)
              replace SC := Lib.hid (SC.out.keeps bX)
              have BB4 := Lib.hid (bnext BB3.out bX)
              clear bX
              go_wp2_with fail
              refine (TAB.out _ SA.out SB.out).mono ?_
              rintro e z5 ⟨v, rfl, oX, bX⟩
              obtain ⟨aa5, cc5, rfl, sX⟩ := oX.ou LP.out
              replace SA := Lib.hid (SA.out.keeps bX)
              replace SB := Lib.hid (SB.out.keeps bX)
              replace SC := Lib.hid (SC.out.keeps bX)
              have BB5 := Lib.hid (bnext BB4.out bX)
              clear bX
              have RAB := Lib.hid sX
              clear sX
              clear oX
              go_wp2_with fail
              refine (TBA.out _ SB.out SA.out).mono ?_
              rintro e z6 ⟨v, rfl, oX, bX⟩
              obtain ⟨aa6, cc6, rfl, sX⟩ := oX.ou LP.out
              replace SA := Lib.hid (SA.out.keeps bX)
              replace SB := Lib.hid (SB.out.keeps bX)
              replace SC := Lib.hid (SC.out.keeps bX)
              replace RAB := Lib.hid (RAB.out.keeps bX)
              have BB6 := Lib.hid (bnext BB5.out bX)
              clear bX
              have RBA := Lib.hid sX
              clear sX
              clear oX
              go_wp2_with fail
              refine (TN.out _ SA.out).mono ?_
              rintro e z7 ⟨v, rfl, oX, bX⟩
              obtain ⟨aa7, cc7, rfl, sX⟩ := oX.ou LA.out
              replace SA := Lib.hid (SA.out.keeps bX)
              replace SB := Lib.hid (SB.out.keeps bX)
              replace SC := Lib.hid (SC.out.keeps bX)
              replace RAB := Lib.hid (RAB.out.keeps bX)
              replace RBA := Lib.hid (RBA.out.keeps bX)
              have BB7 := Lib.hid (bnext BB6.out bX)
              clear bX
              have RN := Lib.hid sX
              clear sX
              clear oX
              go_wp2_with fail
              refine (SPP.out _ _ _ _ _ RAB.out RBA.out).mono ?_
              rintro e z8 ⟨rfl, bX⟩
              replace SA := Lib.hid (SA.out.keeps bX)
              replace SB := Lib.hid (SB.out.keeps bX)
              replace SC := Lib.hid (SC.out.keeps bX)
              replace RAB := Lib.hid (RAB.out.keeps bX)
              replace RBA := Lib.hid (RBA.out.keeps bX)
              replace RN := Lib.hid (RN.out.keeps bX)
              have BB8 := Lib.hid (bnext BB7.out bX)
              clear bX
              go_wp2_with fail
              refine (SLL.out _ _ _ RN.out SA.out).mono ?_
              rintro e z9 ⟨rfl, bX⟩
              replace SA := Lib.hid (SA.out.keeps bX)
              replace SB := Lib.hid (SB.out.keeps bX)
              replace SC := Lib.hid (SC.out.keeps bX)
              replace RAB := Lib.hid (RAB.out.keeps bX)
              replace RBA := Lib.hid (RBA.out.keeps bX)
              replace RN := Lib.hid (RN.out.keeps bX)
              have BB9 := Lib.hid (bnext BB8.out bX)
              clear bX
              go_wp2_with fail
              refine (OB.out _ _ _ RAB.out SB.out).mono ?_
              rintro e z10 ⟨v, rfl, oX, bX⟩
              obtain ⟨aa10, cc10, rfl, sX⟩ := oX.ou LA.out
              replace SA := Lib.hid (SA.out.keeps bX)
              replace SB := Lib.hid (SB.out.keeps bX)
              replace SC := Lib.hid (SC.out.keeps bX)
              replace RAB := Lib.hid (RAB.out.keeps bX)
              have BB10 := Lib.hid (bnext BB9.out bX)
              clear bX
              have RO := Lib.hid sX
              clear sX
              clear oX
              go_wp2_with fail
              refine (SLL.out _ _ _ RO.out SA.out).mono ?_
              rintro e z11 ⟨rfl, bX⟩
              replace SA := Lib.hid (SA.out.keeps bX)
              replace SB := Lib.hid (SB.out.keeps bX)
              replace SC := Lib.hid (SC.out.keeps bX)
              replace RAB := Lib.hid (RAB.out.keeps bX)
              replace RO := Lib.hid (RO.out.keeps bX)
              have BB11 := Lib.hid (bnext BB10.out bX)
              clear bX
              go_wp2_with fail
              refine (OAB.out _ SA.out SB.out).mono ?_
              rintro e z12 ⟨v, rfl, oX, bX⟩
              obtain ⟨aa12, cc12, rfl, sX⟩ := oX.ou LQ.out
              replace SA := Lib.hid (SA.out.keeps bX)
              replace SB := Lib.hid (SB.out.keeps bX)
              replace SC := Lib.hid (SC.out.keeps bX)
              replace RAB := Lib.hid (RAB.out.keeps bX)
              have BB12 := Lib.hid (bnext BB11.out bX)
              clear bX
              have RQ := Lib.hid sX
              clear sX
              clear oX
              go_wp2_with fail
              refine (TBC.out _ SB.out SC.out).mono ?_
              rintro e z13 ⟨v, rfl, oX, bX⟩
              obtain ⟨aa13, cc13, rfl, sX⟩ := oX.ou LG.out
              replace SA := Lib.hid (SA.out.keeps bX)
              replace SB := Lib.hid (SB.out.keeps bX)
              replace SC := Lib.hid (SC.out.keeps bX)
              replace RAB := Lib.hid (RAB.out.keeps bX)
              have BB13 := Lib.hid (bnext BB12.out bX)
              clear bX
              have RBC := Lib.hid sX
              clear sX
              clear oX
              go_wp2_with fail
              go_ret
              exact ⟨rfl, BB13.out⟩
        · skip
          by_cases hq : q = 0
          · skip
            by_cases hg : g = 0
            · skip
              clear TY
              clear OB
              replace TQ := Lib.hid (fun a c W h1 h2 => TQ.out hq a c W h1 h2)
              have qp : (p == 0) = false := beq_eq_false_iff_ne.2 hp
              have qp2 : (p != 0) = true := by rw [bne, qp]; rfl
              have qq : (q == 0) = true := beq_iff_eq.2 hq
              have qg : (g == 0) = true := beq_iff_eq.2 hg
              have qg2 : (g != 0) = false := by rw [bne, qg]; rfl
              clear hp hq hg
              go_enter Tryz.func6, Tryz.ntmps6
              go_wp2_with fail
              refine (E0.out).mono ?_
              rintro e z1 ⟨rfl, bX⟩
              replace SA := Lib.hid (SA.out.keeps bX)
              replace SB := Lib.hid (SB.out.keeps bX)
              replace SC := Lib.hid (SC.out.keeps bX)
              have BB1 := Lib.hid bX
              clear bX
              go_wp2_with fail
              refine (KA.out _ SA.out).mono ?_
              rintro e z2 ⟨rfl, bX⟩
              replace SA := Lib.hid (SA.out.keeps bX)
              replace SB := Lib.hid (SB.out.keeps bX)
              replace SC := Lib.hid (SC.out.keeps bX)
              have BB2 := Lib.hid (bnext BB1.out bX)
              clear bX
              go_wp2_with fail
              refine (KB.out _ SB.out).mono ?_
              rintro e z3 ⟨rfl, bX⟩
              replace SA := Lib.hid (SA.out.keeps bX)
              replace SB := Lib.hid (SB.out.keeps bX)
              replace SC := Lib.hid (SC.out.keeps bX)
              have BB3 := Lib.hid (bnext BB2.out bX)
              clear bX
              go_wp2_with fail
              refine (KC.out _ SC.out).mono ?_
              rintro e z4 ⟨rfl, bX⟩
              replace SA := Lib.hid (SA.out.keeps bX)
              replace SB := Lib.hid (SB.out.keeps bX)
              replace SC := Lib.hid (SC.out.keeps bX)
              have BB4 := Lib.hid (bnext BB3.out bX)
              clear bX
              go_wp2_with fail
              refine (TAB.out _ SA.out SB.out).mono ?_
              rintro e z5 ⟨v, rfl, oX, bX⟩
              obtain ⟨aa5, cc5, rfl, sX⟩ := oX.ou LP.out
              replace SA := Lib.hid (SA.out.keeps bX)
              replace SB := Lib.hid (SB.out.keeps bX)
              replace SC := Lib.hid (SC.out.keeps bX)
              have BB5 := Lib.hid (bnext BB4.out bX)
              clear bX
              have RAB := Lib.hid sX
              clear sX
              clear oX
              go_wp2_with fail
              refine (TBA.out _ SB.out SA.out).mono ?_
              rintro e z6 ⟨v, rfl, oX, bX⟩
              obtain ⟨aa6, cc6, rfl, sX⟩ := oX.ou LP.out
              replace SA := Lib.hid (SA.out.keeps bX)
              replace SB := Lib.hid (SB.out.keeps bX)
              replace SC := Lib.hid (SC.out.keeps bX)
              replace RAB := Lib.hid (RAB.out.keeps bX)
              have BB6 := Lib.hid (bnext BB5.out bX)
              clear bX
              have RBA := Lib.hid sX
              clear sX
              clear oX
              go_wp2_with fail
              refine (TN.out _ SA.out).mono ?_
              rintro e z7 ⟨v, rfl, oX, bX⟩
              obtain ⟨aa7, cc7, rfl, sX⟩ := oX.ou LA.out
              replace SA := Lib.hid (SA.out.keeps bX)
              replace SB := Lib.hid (SB.out.keeps bX)
              replace SC := Lib.hid (SC.out.keeps bX)
              replace RAB := Lib.hid (RAB.out.keeps bX)
              replace RBA := Lib.hid (RBA.out.keeps bX)
              have BB7 := Lib.hid (bnext BB6.out bX)
              clear bX
              have RN := Lib.hid sX
              clear sX
              clear oX
              go_wp2_with fail
              refine (SPP.out _ _ _ _ _ RAB.out RBA.out).mono ?_
              rintro e z8 ⟨rfl, bX⟩
              replace SA := Lib.hid (SA.out.keeps bX)
              replace SB := Lib.hid (SB.out.keeps bX)
              replace SC := Lib.hid (SC.out.keeps bX)
              replace RAB := Lib.hid (RAB.out.keeps bX)
              replace RBA := Lib.hid (RBA.out.keeps bX)
              replace RN := Lib.hid (RN.out.keeps bX)
              have BB8 := Lib.hid (bnext BB7.out bX)
              clear bX
              go_wp2_with fail
              refine (SLL.out _ _ _ RN.out SA.out).mono ?_
              rintro e z9 ⟨rfl, bX⟩
              replace SA := Lib.hid (SA.out.keeps bX)
              replace SB := Lib.hid (SB.out.keeps bX)
              replace SC := Lib.hid (SC.out.keeps bX)
              replace RAB := Lib.hid (RAB.out.keeps bX)
              replace RBA := Lib.hid (RBA.out.keeps bX)
              replace RN := Lib.hid (RN.out.keeps bX)
              have BB9 := Lib.hid (bnext BB8.out bX)
              clear bX
              go_wp2_with fail
              refine (OAB.out _ SA.out SB.out).mono ?_
              rintro e z10 ⟨v, rfl, oX, bX⟩
              obtain ⟨aa10, cc10, rfl, sX⟩ := oX.ou LQ.out
              replace SA := Lib.hid (SA.out.keeps bX)
              replace SB := Lib.hid (SB.out.keeps bX)
              replace SC := Lib.hid (SC.out.keeps bX)
              replace RAB := Lib.hid (RAB.out.keeps bX)
              have BB10 := Lib.hid (bnext BB9.out bX)
              clear bX
              have RQ := Lib.hid sX
              clear sX
              clear oX
              go_wp2_with fail
              refine (TQ.out _ _ _ RQ.out SB.out).mono ?_
              rintro e z11 ⟨v, rfl, oX, bX⟩
              obtain ⟨aa11, cc11, rfl, sX⟩ := oX.ou LA.out
              replace SA := Lib.hid (SA.out.keeps bX)
              replace SB := Lib.hid (SB.out.keeps bX)
              replace SC := Lib.hid (SC.out.keeps bX)
              replace RAB := Lib.hid (RAB.out.keeps bX)
              replace RQ := Lib.hid (RQ.out.keeps bX)
              have BB11 := Lib.hid (bnext BB10.out bX)
              clear bX
              have RT := Lib.hid sX
              clear sX
              clear oX
              go_wp2_with fail
              refine (SLL.out _ _ _ RT.out SA.out).mono ?_
              rintro e z12 ⟨rfl, bX⟩
              replace SA := Lib.hid (SA.out.keeps bX)
              replace SB := Lib.hid (SB.out.keeps bX)
              replace SC := Lib.hid (SC.out.keeps bX)
              replace RAB := Lib.hid (RAB.out.keeps bX)
              replace RQ := Lib.hid (RQ.out.keeps bX)
              replace RT := Lib.hid (RT.out.keeps bX)
              have BB12 := Lib.hid (bnext BB11.out bX)
              clear bX
              go_wp2_with fail
              refine (TBC.out _ SB.out SC.out).mono ?_
              rintro e z13 ⟨v, rfl, oX, bX⟩
              obtain ⟨aa13, cc13, rfl, sX⟩ := oX.ou LG.out
              replace SA := Lib.hid (SA.out.keeps bX)
              replace SB := Lib.hid (SB.out.keeps bX)
              replace SC := Lib.hid (SC.out.keeps bX)
              replace RAB := Lib.hid (RAB.out.keeps bX)
              have BB13 := Lib.hid (bnext BB12.out bX)
              clear bX
              have RBC := Lib.hid sX
              clear sX
              clear oX
              go_wp2_with fail
              go_ret
              exact ⟨rfl, BB13.out⟩
            · skip
              clear TY
              clear OB
              replace TQ := Lib.hid (fun a c W h1 h2 => TQ.out hq a c W h1 h2)
              have qp : (p == 0) = false := beq_eq_false_iff_ne.2 hp
              have qp2 : (p != 0) = true := by rw [bne, qp]; rfl
              have qq : (q == 0) = true := beq_iff_eq.2 hq
              have qg : (g == 0) = false := beq_eq_false_iff_ne.2 hg
              have qg2 : (g != 0) = true := by rw [bne, qg]; rfl
              clear hp hq hg
              go_enter Tryz.func6, Tryz.ntmps6
              go_wp2_with fail
              refine (E0.out).mono ?_
              rintro e z1 ⟨rfl, bX⟩
              replace SA := Lib.hid (SA.out.keeps bX)
              replace SB := Lib.hid (SB.out.keeps bX)
              replace SC := Lib.hid (SC.out.keeps bX)
              have BB1 := Lib.hid bX
              clear bX
              go_wp2_with fail
              refine (KA.out _ SA.out).mono ?_
              rintro e z2 ⟨rfl, bX⟩
              replace SA := Lib.hid (SA.out.keeps bX)
              replace SB := Lib.hid (SB.out.keeps bX)
              replace SC := Lib.hid (SC.out.keeps bX)
              have BB2 := Lib.hid (bnext BB1.out bX)
              clear bX
              go_wp2_with fail
              refine (KB.out _ SB.out).mono ?_
              rintro e z3 ⟨rfl, bX⟩
              replace SA := Lib.hid (SA.out.keeps bX)
              replace SB := Lib.hid (SB.out.keeps bX)
              replace SC := Lib.hid (SC.out.keeps bX)
              have BB3 := Lib.hid (bnext BB2.out bX)
              clear bX
              go_wp2_with fail
              refine (KC.out _ SC.out).mono ?_
              rintro e z4 ⟨rfl, bX⟩
              replace SA := Lib.hid (SA.out.keeps bX)
              replace SB := Lib.hid (SB.out.keeps bX)
              replace SC := Lib.hid (SC.out.keeps bX)
              have BB4 := Lib.hid (bnext BB3.out bX)
              clear bX
              go_wp2_with fail
              refine (TAB.out _ SA.out SB.out).mono ?_
              rintro e z5 ⟨v, rfl, oX, bX⟩
              obtain ⟨aa5, cc5, rfl, sX⟩ := oX.ou LP.out
              replace SA := Lib.hid (SA.out.keeps bX)
              replace SB := Lib.hid (SB.out.keeps bX)
              replace SC := Lib.hid (SC.out.keeps bX)
              have BB5 := Lib.hid (bnext BB4.out bX)
              clear bX
              have RAB := Lib.hid sX
              clear sX
              clear oX
              go_wp2_with fail
              refine (TBA.out _ SB.out SA.out).mono ?_
              rintro e z6 ⟨v, rfl, oX, bX⟩
              obtain ⟨aa6, cc6, rfl, sX⟩ := oX.ou LP.out
              replace SA := Lib.hid (SA.out.keeps bX)
              replace SB := Lib.hid (SB.out.keeps bX)
              replace SC := Lib.hid (SC.out.keeps bX)
              replace RAB := Lib.hid (RAB.out.keeps bX)
              have BB6 := Lib.hid (bnext BB5.out bX)
              clear bX
              have RBA := Lib.hid sX
              clear sX
              clear oX
              go_wp2_with fail
              refine (TN.out _ SA.out).mono ?_
              rintro e z7 ⟨v, rfl, oX, bX⟩
              obtain ⟨aa7, cc7, rfl, sX⟩ := oX.ou LA.out
              replace SA := Lib.hid (SA.out.keeps bX)
              replace SB := Lib.hid (SB.out.keeps bX)
              replace SC := Lib.hid (SC.out.keeps bX)
              replace RAB := Lib.hid (RAB.out.keeps bX)
              replace RBA := Lib.hid (RBA.out.keeps bX)
              have BB7 := Lib.hid (bnext BB6.out bX)
              clear bX
              have RN := Lib.hid sX
              clear sX
              clear oX
              go_wp2_with fail
              refine (SPP.out _ _ _ _ _ RAB.out RBA.out).mono ?_
              rintro e z8 ⟨rfl, bX⟩
              replace SA := Lib.hid (SA.out.keeps bX)
              replace SB := Lib.hid (SB.out.keeps bX)
              replace SC := Lib.hid (SC.out.keeps bX)
              replace RAB := Lib.hid (RAB.out.keeps bX)
              replace RBA := Lib.hid (RBA.out.keeps bX)
              replace RN := Lib.hid (RN.out.keeps bX)
              have BB8 := Lib.hid (bnext BB7.out bX)
              clear bX
              go_wp2_with fail
              refine (SLL.out _ _ _ RN.out SA.out).mono ?_
              rintro e z9 ⟨rfl, bX⟩
              replace SA := Lib.hid (SA.out.keeps bX)
              replace SB := Lib.hid (SB.out.keeps bX)
              replace SC := Lib.hid (SC.out.keeps bX)
              replace RAB := Lib.hid (RAB.out.keeps bX)
              replace RBA := Lib.hid (RBA.out.keeps bX)
              replace RN := Lib.hid (RN.out.keeps bX)
              have BB9 := Lib.hid (bnext BB8.out bX)
              clear bX
              go_wp2_with fail
              refine (OAB.out _ SA.out SB.out).mono ?_
              rintro e z10 ⟨v, rfl, oX, bX⟩
              obtain ⟨aa10, cc10, rfl, sX⟩ := oX.ou LQ.out
              replace SA := Lib.hid (SA.out.keeps bX)
              replace SB := Lib.hid (SB.out.keeps bX)
              replace SC := Lib.hid (SC.out.keeps bX)
              replace RAB := Lib.hid (RAB.out.keeps bX)
              have BB10 := Lib.hid (bnext BB9.out bX)
              clear bX
              have RQ := Lib.hid sX
              clear sX
              clear oX
              go_wp2_with fail
              refine (TQ.out _ _ _ RQ.out SB.out).mono ?_
              rintro e z11 ⟨v, rfl, oX, bX⟩
              obtain ⟨aa11, cc11, rfl, sX⟩ := oX.ou LA.out
              replace SA := Lib.hid (SA.out.keeps bX)
              replace SB := Lib.hid (SB.out.keeps bX)
              replace SC := Lib.hid (SC.out.keeps bX)
              replace RAB := Lib.hid (RAB.out.keeps bX)
              replace RQ := Lib.hid (RQ.out.keeps bX)
              have BB11 := Lib.hid (bnext BB10.out bX)
              clear bX
              have RT := Lib.hid sX
              clear sX
              clear oX
              go_wp2_with fail
              refine (SLL.out _ _ _ RT.out SA.out).mono ?_
              rintro e z12 ⟨rfl, bX⟩
              replace SA := Lib.hid (SA.out.keeps bX)
              replace SB := Lib.hid (SB.out.keeps bX)
              replace SC := Lib.hid (SC.out.keeps bX)
              replace RAB := Lib.hid (RAB.out.keeps bX)
              replace RQ := Lib.hid (RQ.out.keeps bX)
              replace RT := Lib.hid (RT.out.keeps bX)
              have BB12 := Lib.hid (bnext BB11.out bX)
              clear bX
              go_wp2_with fail
              refine (TBC.out _ SB.out SC.out).mono ?_
              rintro e z13 ⟨v, rfl, oX, bX⟩
              obtain ⟨aa13, cc13, rfl, sX⟩ := oX.ou LG.out
              replace SA := Lib.hid (SA.out.keeps bX)
              replace SB := Lib.hid (SB.out.keeps bX)
              replace SC := Lib.hid (SC.out.keeps bX)
              replace RAB := Lib.hid (RAB.out.keeps bX)
              have BB13 := Lib.hid (bnext BB12.out bX)
              clear bX
              have RBC := Lib.hid sX
              clear sX
              clear oX
              go_wp2_with fail
              go_ret
              exact ⟨rfl, BB13.out⟩
          · skip
            by_cases hg : g = 0
            · skip
              clear TY
              clear OB
              clear TQ
              have qp : (p == 0) = false := beq_eq_false_iff_ne.2 hp
              have qp2 : (p != 0) = true := by rw [bne, qp]; rfl
              have qq : (q == 0) = false := beq_eq_false_iff_ne.2 hq
              have qg : (g == 0) = true := beq_iff_eq.2 hg
              have qg2 : (g != 0) = false := by rw [bne, qg]; rfl
              clear hp hq hg
              go_enter Tryz.func6, Tryz.ntmps6
              go_wp2_with fail
              refine (E0.out).mono ?_
              rintro e z1 ⟨rfl, bX⟩
              replace SA := Lib.hid (SA.out.keeps bX)
              replace SB := Lib.hid (SB.out.keeps bX)
              replace SC := Lib.hid (SC.out.keeps bX)
              have BB1 := Lib.hid bX
              clear bX
              go_wp2_with fail
              refine (KA.out _ SA.out).mono ?_
              rintro e z2 ⟨rfl, bX⟩
              replace SA := Lib.hid (SA.out.keeps bX)
              replace SB := Lib.hid (SB.out.keeps bX)
              replace SC := Lib.hid (SC.out.keeps bX)
              have BB2 := Lib.hid (bnext BB1.out bX)
              clear bX
              go_wp2_with fail
              refine (KB.out _ SB.out).mono ?_
              rintro e z3 ⟨rfl, bX⟩
              replace SA := Lib.hid (SA.out.keeps bX)
              replace SB := Lib.hid (SB.out.keeps bX)
              replace SC := Lib.hid (SC.out.keeps bX)
              have BB3 := Lib.hid (bnext BB2.out bX)
              clear bX
              go_wp2_with fail
              refine (KC.out _ SC.out).mono ?_
              rintro e z4 ⟨rfl, bX⟩
              replace SA := Lib.hid (SA.out.keeps bX)
              replace SB := Lib.hid (SB.out.keeps bX)
              replace SC := Lib.hid (SC.out.keeps bX)
              have BB4 := Lib.hid (bnext BB3.out bX)
              clear bX
              go_wp2_with fail
              refine (TAB.out _ SA.out SB.out).mono ?_
              rintro e z5 ⟨v, rfl, oX, bX⟩
              obtain ⟨aa5, cc5, rfl, sX⟩ := oX.ou LP.out
              replace SA := Lib.hid (SA.out.keeps bX)
              replace SB := Lib.hid (SB.out.keeps bX)
              replace SC := Lib.hid (SC.out.keeps bX)
              have BB5 := Lib.hid (bnext BB4.out bX)
              clear bX
              have RAB := Lib.hid sX
              clear sX
              clear oX
              go_wp2_with fail
              refine (TBA.out _ SB.out SA.out).mono ?_
              rintro e z6 ⟨v, rfl, oX, bX⟩
              obtain ⟨aa6, cc6, rfl, sX⟩ := oX.ou LP.out
              replace SA := Lib.hid (SA.out.keeps bX)
              replace SB := Lib.hid (SB.out.keeps bX)
              replace SC := Lib.hid (SC.out.keeps bX)
              replace RAB := Lib.hid (RAB.out.keeps bX)
              have BB6 := Lib.hid (bnext BB5.out bX)
              clear bX
              have RBA := Lib.hid sX
              clear sX
              clear oX
              go_wp2_with fail
              refine (TN.out _ SA.out).mono ?_
              rintro e z7 ⟨v, rfl, oX, bX⟩
              obtain ⟨aa7, cc7, rfl, sX⟩ := oX.ou LA.out
              replace SA := Lib.hid (SA.out.keeps bX)
              replace SB := Lib.hid (SB.out.keeps bX)
              replace SC := Lib.hid (SC.out.keeps bX)
              replace RAB := Lib.hid (RAB.out.keeps bX)
              replace RBA := Lib.hid (RBA.out.keeps bX)
              have BB7 := Lib.hid (bnext BB6.out bX)
              clear bX
              have RN := Lib.hid sX
              clear sX
              clear oX
              go_wp2_with fail
              refine (SPP.out _ _ _ _ _ RAB.out RBA.out).mono ?_
              rintro e z8 ⟨rfl, bX⟩
              replace SA := Lib.hid (SA.out.keeps bX)
              replace SB := Lib.hid (SB.out.keeps bX)
              replace SC := Lib.hid (SC.out.keeps bX)
              replace RAB := Lib.hid (RAB.out.keeps bX)
              replace RBA := Lib.hid (RBA.out.keeps bX)
              replace RN := Lib.hid (RN.out.keeps bX)
              have BB8 := Lib.hid (bnext BB7.out bX)
              clear bX
              go_wp2_with fail
              refine (SLL.out _ _ _ RN.out SA.out).mono ?_
              rintro e z9 ⟨rfl, bX⟩
              replace SA := Lib.hid (SA.out.keeps bX)
              replace SB := Lib.hid (SB.out.keeps bX)
              replace SC := Lib.hid (SC.out.keeps bX)
              replace RAB := Lib.hid (RAB.out.keeps bX)
              replace RBA := Lib.hid (RBA.out.keeps bX)
              replace RN := Lib.hid (RN.out.keeps bX)
              have BB9 := Lib.hid (bnext BB8.out bX)
              clear bX
              go_wp2_with fail
              refine (OAB.out _ SA.out SB.out).mono ?_
              rintro e z10 ⟨v, rfl, oX, bX⟩
              obtain ⟨aa10, cc10, rfl, sX⟩ := oX.ou LQ.out
              replace SA := Lib.hid (SA.out.keeps bX)
              replace SB := Lib.hid (SB.out.keeps bX)
              replace SC := Lib.hid (SC.out.keeps bX)
              replace RAB := Lib.hid (RAB.out.keeps bX)
              have BB10 := Lib.hid (bnext BB9.out bX)
              clear bX
              have RQ := Lib.hid sX
              clear sX
              clear oX
              go_wp2_with fail
              refine (TBC.out _ SB.out SC.out).mono ?_
              rintro e z11 ⟨v, rfl, oX, bX⟩
              obtain ⟨aa11, cc11, rfl, sX⟩ := oX.ou LG.out
              replace SA := Lib.hid (SA.out.keeps bX)
              replace SB := Lib.hid (SB.out.keeps bX)
              replace SC := Lib.hid (SC.out.keeps bX)
              replace RAB := Lib.hid (RAB.out.keeps bX)
              have BB11 := Lib.hid (bnext BB10.out bX)
              clear bX
              have RBC := Lib.hid sX
              clear sX
              clear oX
              go_wp2_with fail
              go_ret
              exact ⟨rfl, BB11.out⟩
            · skip
              clear TY
              clear OB
              clear TQ
              have qp : (p == 0) = false := beq_eq_false_iff_ne.2 hp
              have qp2 : (p != 0) = true := by rw [bne, qp]; rfl
              have qq : (q == 0) = false := beq_eq_false_iff_ne.2 hq
              have qg : (g == 0) = false := beq_eq_false_iff_ne.2 hg
              have qg2 : (g != 0) = true := by rw [bne, qg]; rfl
              clear hp hq hg
              go_enter Tryz.func6, Tryz.ntmps6
              go_wp2_with fail
              refine (E0.out).mono ?_
              rintro e z1 ⟨rfl, bX⟩
              replace SA := Lib.hid (SA.out.keeps bX)
              replace SB := Lib.hid (SB.out.keeps bX)
              replace SC := Lib.hid (SC.out.keeps bX)
              have BB1 := Lib.hid bX
              clear bX
              go_wp2_with fail
              refine (KA.out _ SA.out).mono ?_
              rintro e z2 ⟨rfl, bX⟩
              replace SA := Lib.hid (SA.out.keeps bX)
              replace SB := Lib.hid (SB.out.keeps bX)
              replace SC := Lib.hid (SC.out.keeps bX)
              have BB2 := Lib.hid (bnext BB1.out bX)
              clear bX
              go_wp2_with fail
              refine (KB.out _ SB.out).mono ?_
              rintro e z3 ⟨rfl, bX⟩
              replace SA := Lib.hid (SA.out.keeps bX)
              replace SB := Lib.hid (SB.out.keeps bX)
              replace SC := Lib.hid (SC.out.keeps bX)
              have BB3 := Lib.hid (bnext BB2.out bX)
              clear bX
              go_wp2_with fail
              refine (KC.out _ SC.out).mono ?_
              rintro e z4 ⟨rfl, bX⟩
              replace SA := Lib.hid (SA.out.keeps bX)
              replace SB := Lib.hid (SB.out.keeps bX)
              replace SC := Lib.hid (SC.out.keeps bX)
              have BB4 := Lib.hid (bnext BB3.out bX)
              clear bX
              go_wp2_with fail
              refine (TAB.out _ SA.out SB.out).mono ?_
              rintro e z5 ⟨v, rfl, oX, bX⟩
              obtain ⟨aa5, cc5, rfl, sX⟩ := oX.ou LP.out
              replace SA := Lib.hid (SA.out.keeps bX)
              replace SB := Lib.hid (SB.out.keeps bX)
              replace SC := Lib.hid (SC.out.keeps bX)
              have BB5 := Lib.hid (bnext BB4.out bX)
              clear bX
              have RAB := Lib.hid sX
              clear sX
              clear oX
              go_wp2_with fail
              refine (TBA.out _ SB.out SA.out).mono ?_
              rintro e z6 ⟨v, rfl, oX, bX⟩
              obtain ⟨aa6, cc6, rfl, sX⟩ := oX.ou LP.out
              replace SA := Lib.hid (SA.out.keeps bX)
              replace SB := Lib.hid (SB.out.keeps bX)
              replace SC := Lib.hid (SC.out.keeps bX)
              replace RAB := Lib.hid (RAB.out.keeps bX)
              have BB6 := Lib.hid (bnext BB5.out bX)
              clear bX
              have RBA := Lib.hid sX
              clear sX
              clear oX
              go_wp2_with fail
              refine (TN.out _ SA.out).mono ?_
              rintro e z7 ⟨v, rfl, oX, bX⟩
              obtain ⟨aa7, cc7, rfl, sX⟩ := oX.ou LA.out
              replace SA := Lib.hid (SA.out.keeps bX)
              replace SB := Lib.hid (SB.out.keeps bX)
              replace SC := Lib.hid (SC.out.keeps bX)
              replace RAB := Lib.hid (RAB.out.keeps bX)
              replace RBA := Lib.hid (RBA.out.keeps bX)
              have BB7 := Lib.hid (bnext BB6.out bX)
              clear bX
              have RN := Lib.hid sX
              clear sX
              clear oX
              go_wp2_with fail
              refine (SPP.out _ _ _ _ _ RAB.out RBA.out).mono ?_
              rintro e z8 ⟨rfl, bX⟩
              replace SA := Lib.hid (SA.out.keeps bX)
              replace SB := Lib.hid (SB.out.keeps bX)
              replace SC := Lib.hid (SC.out.keeps bX)
              replace RAB := Lib.hid (RAB.out.keeps bX)
              replace RBA := Lib.hid (RBA.out.keeps bX)
              replace RN := Lib.hid (RN.out.keeps bX)
              have BB8 := Lib.hid (bnext BB7.out bX)
              clear bX
              go_wp2_with fail
              refine (SLL.out _ _ _ RN.out SA.out).mono ?_
              rintro e z9 ⟨rfl, bX⟩
              replace SA := Lib.hid (SA.out.keeps bX)
              replace SB := Lib.hid (SB.out.keeps bX)
              replace SC := Lib.hid (SC.out.keeps bX)
              replace RAB := Lib.hid (RAB.out.keeps bX)
              replace RBA := Lib.hid (RBA.out.keeps bX)
              replace RN := Lib.hid (RN.out.keeps bX)
              have BB9 := Lib.hid (bnext BB8.out bX)
              clear bX
              go_wp2_with fail
              refine (OAB.out _ SA.out SB.out).mono ?_
              rintro e z10 ⟨v, rfl, oX, bX⟩
              obtain ⟨aa10, cc10, rfl, sX⟩ := oX.ou LQ.out
              replace SA := Lib.hid (SA.out.keeps bX)
              replace SB := Lib.hid (SB.out.keeps bX)
              replace SC := Lib.hid (SC.out.keeps bX)
              replace RAB := Lib.hid (RAB.out.keeps bX)
              have BB10 := Lib.hid (bnext BB9.out bX)
              clear bX
              have RQ := Lib.hid sX
              clear sX
              clear oX
              go_wp2_with fail
              refine (TBC.out _ SB.out SC.out).mono ?_
              rintro e z11 ⟨v, rfl, oX, bX⟩
              obtain ⟨aa11, cc11, rfl, sX⟩ := oX.ou LG.out
              replace SA := Lib.hid (SA.out.keeps bX)
              replace SB := Lib.hid (SB.out.keeps bX)
              replace SC := Lib.hid (SC.out.keeps bX)
              replace RAB := Lib.hid (RAB.out.keeps bX)
              have BB11 := Lib.hid (bnext BB10.out bX)
              clear bX
              have RBC := Lib.hid sX
              clear sX
              clear oX
              go_wp2_with fail
              go_ret
              exact ⟨rfl, BB11.out⟩
      · have qc : (ck t != 0) = true := by rw [bne_iff_ne]; exact hc
        rw [ha] at KA
        rw [hb] at KB
        clear hc ha hb
        generalize ck t = k at *
        go_enter Tryz.func6, Tryz.ntmps6
        go_wp2_with fail
        refine (E0.out).mono ?_
        rintro e z1 ⟨rfl, bX⟩
        replace SA := Lib.hid (SA.out.keeps bX)
        replace SB := Lib.hid (SB.out.keeps bX)
        replace SC := Lib.hid (SC.out.keeps bX)
        have BB1 := Lib.hid bX
        clear bX
        go_wp2_with fail
        refine (KA.out _ SA.out).mono ?_
        rintro e z2 ⟨rfl, bX⟩
        replace SA := Lib.hid (SA.out.keeps bX)
        replace SB := Lib.hid (SB.out.keeps bX)
        replace SC := Lib.hid (SC.out.keeps bX)
        have BB2 := Lib.hid (bnext BB1.out bX)
        clear bX
        go_wp2_with fail
        refine (KB.out _ SB.out).mono ?_
        rintro e z3 ⟨rfl, bX⟩
        replace SA := Lib.hid (SA.out.keeps bX)
        replace SB := Lib.hid (SB.out.keeps bX)
        replace SC := Lib.hid (SC.out.keeps bX)
        have BB3 := Lib.hid (bnext BB2.out bX)
        clear bX
        go_wp2_with fail
        refine (KC.out _ SC.out).mono ?_
        rintro e z4 ⟨rfl, bX⟩
        replace SA := Lib.hid (SA.out.keeps bX)
        replace SB := Lib.hid (SB.out.keeps bX)
        replace SC := Lib.hid (SC.out.keeps bX)
        have BB4 := Lib.hid (bnext BB3.out bX)
        clear bX
        go_wp2_with fail
        go_ret
        exact ⟨rfl, BB4.out⟩
    · have qc : (ck r != 0) = true := by rw [bne_iff_ne]; exact hb
      rw [ha] at KA
      clear ha hb
      generalize ck r = k at *
      go_enter Tryz.func6, Tryz.ntmps6
      go_wp2_with fail
      refine (E0.out).mono ?_
      rintro e z1 ⟨rfl, bX⟩
      replace SA := Lib.hid (SA.out.keeps bX)
      replace SB := Lib.hid (SB.out.keeps bX)
      replace SC := Lib.hid (SC.out.keeps bX)
      have BB1 := Lib.hid bX
      clear bX
      go_wp2_with fail
      refine (KA.out _ SA.out).mono ?_
      rintro e z2 ⟨rfl, bX⟩
      replace SA := Lib.hid (SA.out.keeps bX)
      replace SB := Lib.hid (SB.out.keeps bX)
      replace SC := Lib.hid (SC.out.keeps bX)
      have BB2 := Lib.hid (bnext BB1.out bX)
      clear bX
      go_wp2_with fail
      refine (KB.out _ SB.out).mono ?_
      rintro e z3 ⟨rfl, bX⟩
      replace SA := Lib.hid (SA.out.keeps bX)
      replace SB := Lib.hid (SB.out.keeps bX)
      replace SC := Lib.hid (SC.out.keeps bX)
      have BB3 := Lib.hid (bnext BB2.out bX)
      clear bX
      go_wp2_with fail
      go_ret
      exact ⟨rfl, BB3.out⟩
  · have qc : (ck l != 0) = true := by rw [bne_iff_ne]; exact ha
    clear ha
    generalize ck l = k at *
    go_enter Tryz.func6, Tryz.ntmps6
    go_wp2_with fail
    refine (E0.out).mono ?_
    rintro e z1 ⟨rfl, bX⟩
    replace SA := Lib.hid (SA.out.keeps bX)
    replace SB := Lib.hid (SB.out.keeps bX)
    replace SC := Lib.hid (SC.out.keeps bX)
    have BB1 := Lib.hid bX
    clear bX
    go_wp2_with fail
    refine (KA.out _ SA.out).mono ?_
    rintro e z2 ⟨rfl, bX⟩
    replace SA := Lib.hid (SA.out.keeps bX)
    replace SB := Lib.hid (SB.out.keeps bX)
    replace SC := Lib.hid (SC.out.keeps bX)
    have BB2 := Lib.hid (bnext BB1.out bX)
    clear bX
    go_wp2_with fail
    go_ret
    exact ⟨rfl, BB2.out⟩
end Go.Proofs.YtcndlcogainnkaaGreatDoor

/-
  The statement UnitsTexts, walked.
-/
import Derived.Test.YtcndlcogainnkaaGreatDoorExa
namespace Go.Proofs.YtcndlcogainnkaaGreatDoor
open Go.RowKit dec

theorem bs_of {l : List UInt8} {s : ByteArray} (h : l = s.data.toList) : (⟨l.toArray⟩ : ByteArray) = s := by rw [h]
theorem format_ok (a : Option Addr) (n cap : Nat) (l : List Fa) (h : Ok l) (w : World) (hS : Sl w a n cap l) (T : Tabs w) :
    Calls Tryz.prog 23 #[.slice a n cap] w fun e w' => e = .returned (.string ⟨(fT l).toArray⟩) ∧ Below w.heap.size w w' := format_any a n cap l w hS (ok_facts h).1 (ok_facts h).2.1 (ok_facts h).2.2.1 (ok_facts h).2.2.2 T
theorem text_same {l r : List Fa} (h1 : Ok l) (h2 : Ok r) : ((⟨(fT l).toArray⟩ : ByteArray).toList == (⟨(fT r).toArray⟩ : ByteArray).toList) = sameB l r := by
  rw [arr_eq]
  unfold sameB
  rw [decide_eq_decide]
  exact ⟨fun h => fT_inj h1 h2 h, fun h => by rw [h]⟩
theorem small_text {l : List Fa} (h : Ok l) : (⟨(fT l).toArray⟩ : ByteArray).size ≤ 140737488355328 := by
  have := fT_len h
  rw [Lib.size_eq]
  show (fT l).length ≤ _
  omega
set_option maxRecDepth 100000 in
set_option maxHeartbeats 2000000 in
theorem walk_texts (a0 : Option Addr) (n0 c0 : Nat) (l : List Fa) (a1 : Option Addr) (n1 c1 : Nat) (r : List Fa) (s : ByteArray) (hs : s.size ≤ 140737488355328) (w : World) (hA : Sl w a0 n0 c0 l) (hB : Sl w a1 n1 c1 r) (T : Tabs w) :
    Calls Tryz.prog 7 #[.slice a0 n0 c0, .slice a1 n1 c1, .string s] w fun e w' => e = .returned (.bool true) ∧ Below w.heap.size w w' := by
  have E0 := Lib.hid (example_any w T)
  have T0 := Lib.hid T
  have SA := Lib.hid hA
  have SB := Lib.hid hB
  have KA := Lib.hid (fun W h => check_any a0 n0 c0 l W h)
  have KB := Lib.hid (fun W h => check_any a1 n1 c1 r W h)
  have PS := Lib.hid (fun W T => parse_any s hs W T)
  obtain ⟨ks, hks⟩ : ∃ k, (psL s.data.toList).length = k := ⟨_, rfl⟩
  have LS := Lib.hid hks
  clear hA hB T hks hs
  by_cases ha : ck l = 0
  · by_cases hb : ck r = 0
    · skip
      have okl := (ck_iff l).1 ha
      have FA := Lib.hid (fun W h T => format_ok a0 n0 c0 l okl W h T)
      have PA := Lib.hid (fun W T => parse_any ⟨(fT l).toArray⟩ (small_text okl) W T)
      rw [show psE _ = 0 from (ps_back okl).1, show psL _ = l from (ps_back okl).2] at PA
      have LA := Lib.hid SA.out.hn
      have SR := Lib.hid (fun a c W h1 h2 => same_any a n0 c a0 n0 c0 l l W h1 h2)
      rw [show sameB l l = true from decide_eq_true rfl] at SR
      rw [ha] at KA
      have okr := (ck_iff r).1 hb
      have FB := Lib.hid (fun W h T => format_ok a1 n1 c1 r okr W h T)
      have SAB := Lib.hid (fun W h1 h2 => same_any a0 n0 c0 a1 n1 c1 l r W h1 h2)
      have q9 := text_same okl okr
      rw [hb] at KB
      generalize sameB l r = bb at *
      generalize (⟨(fT r).toArray⟩ : ByteArray) = tb at *
      generalize (⟨(fT l).toArray⟩ : ByteArray) = ta at *
      by_cases hp : psE s.data.toList = 0
      · skip
        have oks := ps_ok hp
        have KS := Lib.hid (fun a c W h => check_any a ks c (psL s.data.toList) W h)
        rw [(ck_iff _).2 oks.1] at KS
        have FS := Lib.hid (fun a c W h T => format_ok a ks c (psL s.data.toList) oks.1 W h T)
        rw [bs_of oks.2] at FS
        rw [hp] at PS
        clear hp oks
        generalize psL s.data.toList = ls at *
        go_enter Tryz.func7, Tryz.ntmps7
        go_wp2_with fail
        refine (E0.out).mono ?_
        rintro e z1 ⟨rfl, bX⟩
        replace SA := Lib.hid (SA.out.keeps bX)
        replace SB := Lib.hid (SB.out.keeps bX)
        have BB1 := Lib.hid bX
        have TT1 := Lib.hid (T0.out.stays bX)
        clear bX
        go_wp2_with fail
        refine (KA.out _ SA.out).mono ?_
        rintro e z2 ⟨rfl, bX⟩
        replace SA := Lib.hid (SA.out.keeps bX)
        replace SB := Lib.hid (SB.out.keeps bX)
        have BB2 := Lib.hid (bnext BB1.out bX)
        have TT2 := Lib.hid (TT1.out.stays bX)
        clear bX
        go_wp2_with fail
        refine (FA.out _ SA.out TT2.out).mono ?_
        rintro e z3 ⟨rfl, bX⟩
        replace SA := Lib.hid (SA.out.keeps bX)
        replace SB := Lib.hid (SB.out.keeps bX)
        have BB3 := Lib.hid (bnext BB2.out bX)
        have TT3 := Lib.hid (TT2.out.stays bX)
        clear bX
        go_wp2_with fail
        refine (PA.out _ TT3.out).mono ?_
        rintro e z4 ⟨v, rfl, oX, bX⟩
        obtain ⟨aa4, cc4, rfl, sX⟩ := oX.ou LA.out
        replace SA := Lib.hid (SA.out.keeps bX)
        replace SB := Lib.hid (SB.out.keeps bX)
        have BB4 := Lib.hid (bnext BB3.out bX)
        have TT4 := Lib.hid (TT3.out.stays bX)
        clear bX
        have RA := Lib.hid sX
        clear sX
        clear oX
        go_wp2_with fail
        refine (SR.out _ _ _ RA.out SA.out).mono ?_
        rintro e z5 ⟨rfl, bX⟩
        replace SA := Lib.hid (SA.out.keeps bX)
        replace SB := Lib.hid (SB.out.keeps bX)
        replace RA := Lib.hid (RA.out.keeps bX)
        have BB5 := Lib.hid (bnext BB4.out bX)
        have TT5 := Lib.hid (TT4.out.stays bX)
        clear bX
        go_wp2_with fail
        refine (KB.out _ SB.out).mono ?_
        rintro e z6 ⟨rfl, bX⟩
        replace SA := Lib.hid (SA.out.keeps bX)
        replace SB := Lib.hid (SB.out.keeps bX)
        have BB6 := Lib.hid (bnext BB5.out bX)
        have TT6 := Lib.hid (TT5.out.stays bX)
        clear bX
        go_wp2_with fail
        refine (FA.out _ SA.out TT6.out).mono ?_
        rintro e z7 ⟨rfl, bX⟩
        replace SA := Lib.hid (SA.out.keeps bX)
        replace SB := Lib.hid (SB.out.keeps bX)
        have BB7 := Lib.hid (bnext BB6.out bX)
        have TT7 := Lib.hid (TT6.out.stays bX)
        clear bX
        go_wp2_with fail
        refine (FB.out _ SB.out TT7.out).mono ?_
        rintro e z8 ⟨rfl, bX⟩
        replace SA := Lib.hid (SA.out.keeps bX)
        replace SB := Lib.hid (SB.out.keeps bX)
        have BB8 := Lib.hid (bnext BB7.out bX)
        have TT8 := Lib.hid (TT7.out.stays bX)
        clear bX
        go_wp2_with fail
        refine (SAB.out _ SA.out SB.out).mono ?_
        rintro e z9 ⟨rfl, bX⟩
        replace SA := Lib.hid (SA.out.keeps bX)
        replace SB := Lib.hid (SB.out.keeps bX)
        have BB9 := Lib.hid (bnext BB8.out bX)
        have TT9 := Lib.hid (TT8.out.stays bX)
        clear bX
        go_wp2_with fail
        refine (PS.out _ TT9.out).mono ?_
        rintro e z10 ⟨v, rfl, oX, bX⟩
        obtain ⟨aa10, cc10, rfl, sX⟩ := oX.ou LS.out
        have BB10 := Lib.hid (bnext BB9.out bX)
        have TT10 := Lib.hid (TT9.out.stays bX)
        clear bX
        have RS := Lib.hid sX
        clear sX
        clear oX
        go_wp2_with fail
        refine (KS.out _ _ _ RS.out).mono ?_
        rintro e z11 ⟨rfl, bX⟩
        replace RS := Lib.hid (RS.out.keeps bX)
        have BB11 := Lib.hid (bnext BB10.out bX)
        have TT11 := Lib.hid (TT10.out.stays bX)
        clear bX
        go_wp2_with fail
        refine (FS.out _ _ _ RS.out TT11.out).mono ?_
        rintro e z12 ⟨rfl, bX⟩
        replace RS := Lib.hid (RS.out.keeps bX)
        have BB12 := Lib.hid (bnext BB11.out bX)
        have TT12 := Lib.hid (TT11.out.stays bX)
        clear bX
        go_wp2_with fail
        go_ret
        exact ⟨rfl, BB12.out⟩
      · skip
        have no := ps_no hp
        rw [no.1, no.2] at PS
        rw [no.2] at LS
        have hk0 : ks = 0 := LS.out.symm
        subst hk0
        clear hp no
        go_enter Tryz.func7, Tryz.ntmps7
        go_wp2_with fail
        refine (E0.out).mono ?_
        rintro e z1 ⟨rfl, bX⟩
        replace SA := Lib.hid (SA.out.keeps bX)
        replace SB := Lib.hid (SB.out.keeps bX)
        have BB1 := Lib.hid bX
        have TT1 := Lib.hid (T0.out.stays bX)
        clear bX
        go_wp2_with fail
        refine (KA.out _ SA.out).mono ?_
        rintro e z2 ⟨rfl, bX⟩
        replace SA := Lib.hid (SA.out.keeps bX)
        replace SB := Lib.hid (SB.out.keeps bX)
        have BB2 := Lib.hid (bnext BB1.out bX)
        have TT2 := Lib.hid (TT1.out.stays bX)
        clear bX
        go_wp2_with fail
        refine (FA.out _ SA.out TT2.out).mono ?_
        rintro e z3 ⟨rfl, bX⟩
        replace SA := Lib.hid (SA.out.keeps bX)
        replace SB := Lib.hid (SB.out.keeps bX)
        have BB3 := Lib.hid (bnext BB2.out bX)
        have TT3 := Lib.hid (TT2.out.stays bX)
        clear bX
        go_wp2_with fail
        refine (PA.out _ TT3.out).mono ?_
        rintro e z4 ⟨v, rfl, oX, bX⟩
        obtain ⟨aa4, cc4, rfl, sX⟩ := oX.ou LA.out
        replace SA := Lib.hid (SA.out.keeps bX)
        replace SB := Lib.hid (SB.out.keeps bX)
        have BB4 := Lib.hid (bnext BB3.out bX)
        have TT4 := Lib.hid (TT3.out.stays bX)
        clear bX
        have RA := Lib.hid sX
        clear sX
        clear oX
        go_wp2_with fail
        refine (SR.out _ _ _ RA.out SA.out).mono ?_
        rintro e z5 ⟨rfl, bX⟩
        replace SA := Lib.hid (SA.out.keeps bX)
        replace SB := Lib.hid (SB.out.keeps bX)
        replace RA := Lib.hid (RA.out.keeps bX)
        have BB5 := Lib.hid (bnext BB4.out bX)
        have TT5 := Lib.hid (TT4.out.stays bX)
        clear bX
        go_wp2_with fail
        refine (KB.out _ SB.out).mono ?_
        rintro e z6 ⟨rfl, bX⟩
        replace SA := Lib.hid (SA.out.keeps bX)
        replace SB := Lib.hid (SB.out.keeps bX)
        have BB6 := Lib.hid (bnext BB5.out bX)
        have TT6 := Lib.hid (TT5.out.stays bX)
        clear bX
        go_wp2_with fail
        refine (FA.out _ SA.out TT6.out).mono ?_
        rintro e z7 ⟨rfl, bX⟩
        replace SA := Lib.hid (SA.out.keeps bX)
        replace SB := Lib.hid (SB.out.keeps bX)
        have BB7 := Lib.hid (bnext BB6.out bX)
        have TT7 := Lib.hid (TT6.out.stays bX)
        clear bX
        go_wp2_with fail
        refine (FB.out _ SB.out TT7.out).mono ?_
        rintro e z8 ⟨rfl, bX⟩
        replace SA := Lib.hid (SA.out.keeps bX)
        replace SB := Lib.hid (SB.out.keeps bX)
        have BB8 := Lib.hid (bnext BB7.out bX)
        have TT8 := Lib.hid (TT7.out.stays bX)
        clear bX
        go_wp2_with fail
        refine (SAB.out _ SA.out SB.out).mono ?_
        rintro e z9 ⟨rfl, bX⟩
        replace SA := Lib.hid (SA.out.keeps bX)
        replace SB := Lib.hid (SB.out.keeps bX)
        have BB9 := Lib.hid (bnext BB8.out bX)
        have TT9 := Lib.hid (TT8.out.stays bX)
        clear bX
        go_wp2_with fail
        refine (PS.out _ TT9.out).mono ?_
        rintro e z10 ⟨v, rfl, oX, bX⟩
        obtain ⟨aa10, cc10, rfl, sX⟩ := oX.ou LS.out
        have BB10 := Lib.hid (bnext BB9.out bX)
        have TT10 := Lib.hid (TT9.out.stays bX)
        clear bX
        have RS := Lib.hid sX
        clear sX
        clear oX
        go_wp2_with fail
        go_ret
        exact ⟨rfl, BB10.out⟩
    · skip
      have okl := (ck_iff l).1 ha
      have FA := Lib.hid (fun W h T => format_ok a0 n0 c0 l okl W h T)
      have PA := Lib.hid (fun W T => parse_any ⟨(fT l).toArray⟩ (small_text okl) W T)
      rw [show psE _ = 0 from (ps_back okl).1, show psL _ = l from (ps_back okl).2] at PA
      have LA := Lib.hid SA.out.hn
      have SR := Lib.hid (fun a c W h1 h2 => same_any a n0 c a0 n0 c0 l l W h1 h2)
      rw [show sameB l l = true from decide_eq_true rfl] at SR
      rw [ha] at KA
      have qb : (ck r == 0) = false := beq_eq_false_iff_ne.2 hb
      generalize ck r = kb at *
      generalize (⟨(fT l).toArray⟩ : ByteArray) = ta at *
      by_cases hp : psE s.data.toList = 0
      · skip
        have oks := ps_ok hp
        have KS := Lib.hid (fun a c W h => check_any a ks c (psL s.data.toList) W h)
        rw [(ck_iff _).2 oks.1] at KS
        have FS := Lib.hid (fun a c W h T => format_ok a ks c (psL s.data.toList) oks.1 W h T)
        rw [bs_of oks.2] at FS
        rw [hp] at PS
        clear hp oks
        generalize psL s.data.toList = ls at *
        go_enter Tryz.func7, Tryz.ntmps7
        go_wp2_with fail
        refine (E0.out).mono ?_
        rintro e z1 ⟨rfl, bX⟩
        replace SA := Lib.hid (SA.out.keeps bX)
        replace SB := Lib.hid (SB.out.keeps bX)
        have BB1 := Lib.hid bX
        have TT1 := Lib.hid (T0.out.stays bX)
        clear bX
        go_wp2_with fail
        refine (KA.out _ SA.out).mono ?_
        rintro e z2 ⟨rfl, bX⟩
        replace SA := Lib.hid (SA.out.keeps bX)
        replace SB := Lib.hid (SB.out.keeps bX)
        have BB2 := Lib.hid (bnext BB1.out bX)
        have TT2 := Lib.hid (TT1.out.stays bX)
        clear bX
        go_wp2_with fail
        refine (FA.out _ SA.out TT2.out).mono ?_
        rintro e z3 ⟨rfl, bX⟩
        replace SA := Lib.hid (SA.out.keeps bX)
        replace SB := Lib.hid (SB.out.keeps bX)
        have BB3 := Lib.hid (bnext BB2.out bX)
        have TT3 := Lib.hid (TT2.out.stays bX)
        clear bX
        go_wp2_with fail
        refine (PA.out _ TT3.out).mono ?_
        rintro e z4 ⟨v, rfl, oX, bX⟩
        obtain ⟨aa4, cc4, rfl, sX⟩ := oX.ou LA.out
        replace SA := Lib.hid (SA.out.keeps bX)
        replace SB := Lib.hid (SB.out.keeps bX)
        have BB4 := Lib.hid (bnext BB3.out bX)
        have TT4 := Lib.hid (TT3.out.stays bX)
        clear bX
        have RA := Lib.hid sX
        clear sX
        clear oX
        go_wp2_with fail
        refine (SR.out _ _ _ RA.out SA.out).mono ?_
        rintro e z5 ⟨rfl, bX⟩
        replace SA := Lib.hid (SA.out.keeps bX)
        replace SB := Lib.hid (SB.out.keeps bX)
        replace RA := Lib.hid (RA.out.keeps bX)
        have BB5 := Lib.hid (bnext BB4.out bX)
        have TT5 := Lib.hid (TT4.out.stays bX)
        clear bX
        go_wp2_with fail
        refine (KB.out _ SB.out).mono ?_
        rintro e z6 ⟨rfl, bX⟩
        replace SA := Lib.hid (SA.out.keeps bX)
        replace SB := Lib.hid (SB.out.keeps bX)
        have BB6 := Lib.hid (bnext BB5.out bX)
        have TT6 := Lib.hid (TT5.out.stays bX)
        clear bX
        go_wp2_with fail
        refine (PS.out _ TT6.out).mono ?_
        rintro e z7 ⟨v, rfl, oX, bX⟩
        obtain ⟨aa7, cc7, rfl, sX⟩ := oX.ou LS.out
        have BB7 := Lib.hid (bnext BB6.out bX)
        have TT7 := Lib.hid (TT6.out.stays bX)
        clear bX
        have RS := Lib.hid sX
        clear sX
        clear oX
        go_wp2_with fail
        refine (KS.out _ _ _ RS.out).mono ?_
        rintro e z8 ⟨rfl, bX⟩
        replace RS := Lib.hid (RS.out.keeps bX)
        have BB8 := Lib.hid (bnext BB7.out bX)
        have TT8 := Lib.hid (TT7.out.stays bX)
        clear bX
        go_wp2_with fail
        refine (FS.out _ _ _ RS.out TT8.out).mono ?_
        rintro e z9 ⟨rfl, bX⟩
        replace RS := Lib.hid (RS.out.keeps bX)
        have BB9 := Lib.hid (bnext BB8.out bX)
        have TT9 := Lib.hid (TT8.out.stays bX)
        clear bX
        go_wp2_with fail
        go_ret
        exact ⟨rfl, BB9.out⟩
      · skip
        have no := ps_no hp
        rw [no.1, no.2] at PS
        rw [no.2] at LS
        have hk0 : ks = 0 := LS.out.symm
        subst hk0
        clear hp no
        go_enter Tryz.func7, Tryz.ntmps7
        go_wp2_with fail
        refine (E0.out).mono ?_
        rintro e z1 ⟨rfl, bX⟩
        replace SA := Lib.hid (SA.out.keeps bX)
        replace SB := Lib.hid (SB.out.keeps bX)
        have BB1 := Lib.hid bX
        have TT1 := Lib.hid (T0.out.stays bX)
        clear bX
        go_wp2_with fail
        refine (KA.out _ SA.out).mono ?_
        rintro e z2 ⟨rfl, bX⟩
        replace SA := Lib.hid (SA.out.keeps bX)
        replace SB := Lib.hid (SB.out.keeps bX)
        have BB2 := Lib.hid (bnext BB1.out bX)
        have TT2 := Lib.hid (TT1.out.stays bX)
        clear bX
        go_wp2_with fail
        refine (FA.out _ SA.out TT2.out).mono ?_
        rintro e z3 ⟨rfl, bX⟩
        replace SA := Lib.hid (SA.out.keeps bX)
        replace SB := Lib.hid (SB.out.keeps bX)
        have BB3 := Lib.hid (bnext BB2.out bX)
        have TT3 := Lib.hid (TT2.out.stays bX)
        clear bX
        go_wp2_with fail
        refine (PA.out _ TT3.out).mono ?_
        rintro e z4 ⟨v, rfl, oX, bX⟩
        obtain ⟨aa4, cc4, rfl, sX⟩ := oX.ou LA.out
        replace SA := Lib.hid (SA.out.keeps bX)
        replace SB := Lib.hid (SB.out.keeps bX)
        have BB4 := Lib.hid (bnext BB3.out bX)
        have TT4 := Lib.hid (TT3.out.stays bX)
        clear bX
        have RA := Lib.hid sX
        clear sX
        clear oX
        go_wp2_with fail
        refine (SR.out _ _ _ RA.out SA.out).mono ?_
        rintro e z5 ⟨rfl, bX⟩
        replace SA := Lib.hid (SA.out.keeps bX)
        replace SB := Lib.hid (SB.out.keeps bX)
        replace RA := Lib.hid (RA.out.keeps bX)
        have BB5 := Lib.hid (bnext BB4.out bX)
        have TT5 := Lib.hid (TT4.out.stays bX)
        clear bX
        go_wp2_with fail
        refine (KB.out _ SB.out).mono ?_
        rintro e z6 ⟨rfl, bX⟩
        replace SA := Lib.hid (SA.out.keeps bX)
        replace SB := Lib.hid (SB.out.keeps bX)
        have BB6 := Lib.hid (bnext BB5.out bX)
        have TT6 := Lib.hid (TT5.out.stays bX)
        clear bX
        go_wp2_with fail
        refine (PS.out _ TT6.out).mono ?_
        rintro e z7 ⟨v, rfl, oX, bX⟩
        obtain ⟨aa7, cc7, rfl, sX⟩ := oX.ou LS.out
        have BB7 := Lib.hid (bnext BB6.out bX)
        have TT7 := Lib.hid (TT6.out.stays bX)
        clear bX
        have RS := Lib.hid sX
        clear sX
        clear oX
        go_wp2_with fail
        go_ret
        exact ⟨rfl, BB7.out⟩
  · skip
    have qa : (ck l == 0) = false := beq_eq_false_iff_ne.2 ha
    generalize ck l = ka at *
    by_cases hp : psE s.data.toList = 0
    · skip
      have oks := ps_ok hp
      have KS := Lib.hid (fun a c W h => check_any a ks c (psL s.data.toList) W h)
      rw [(ck_iff _).2 oks.1] at KS
      have FS := Lib.hid (fun a c W h T => format_ok a ks c (psL s.data.toList) oks.1 W h T)
      rw [bs_of oks.2] at FS
      rw [hp] at PS
      clear hp oks
      generalize psL s.data.toList = ls at *
      go_enter Tryz.func7, Tryz.ntmps7
      go_wp2_with fail
      refine (E0.out).mono ?_
      rintro e z1 ⟨rfl, bX⟩
      replace SA := Lib.hid (SA.out.keeps bX)
      replace SB := Lib.hid (SB.out.keeps bX)
      have BB1 := Lib.hid bX
      have TT1 := Lib.hid (T0.out.stays bX)
      clear bX
      go_wp2_with fail
      refine (KA.out _ SA.out).mono ?_
      rintro e z2 ⟨rfl, bX⟩
      replace SA := Lib.hid (SA.out.keeps bX)
      replace SB := Lib.hid (SB.out.keeps bX)
      have BB2 := Lib.hid (bnext BB1.out bX)
      have TT2 := Lib.hid (TT1.out.stays bX)
      clear bX
      go_wp2_with fail
      refine (PS.out _ TT2.out).mono ?_
      rintro e z3 ⟨v, rfl, oX, bX⟩
      obtain ⟨aa3, cc3, rfl, sX⟩ := oX.ou LS.out
      have BB3 := Lib.hid (bnext BB2.out bX)
      have TT3 := Lib.hid (TT2.out.stays bX)
      clear bX
      have RS := Lib.hid sX
      clear sX
      clear oX
      go_wp2_with fail
      refine (KS.out _ _ _ RS.out).mono ?_
      rintro e z4 ⟨rfl, bX⟩
      replace RS := Lib.hid (RS.out.keeps bX)
      have BB4 := Lib.hid (bnext BB3.out bX)
      have TT4 := Lib.hid (TT3.out.stays bX)
      clear bX
      go_wp2_with fail
      refine (FS.out _ _ _ RS.out TT4.out).mono ?_
      rintro e z5 ⟨rfl, bX⟩
      replace RS := Lib.hid (RS.out.keeps bX)
      have BB5 := Lib.hid (bnext BB4.out bX)
      have TT5 := Lib.hid (TT4.out.stays bX)
      clear bX
      go_wp2_with fail
      go_ret
      exact ⟨rfl, BB5.out⟩
    · skip
      have no := ps_no hp
      rw [no.1, no.2] at PS
      rw [no.2] at LS
      have hk0 : ks = 0 := LS.out.symm
      subst hk0
      clear hp no
      go_enter Tryz.func7, Tryz.ntmps7
      go_wp2_with fail
      refine (E0.out).mono ?_
      rintro e z1 ⟨rfl, bX⟩
      replace SA := Lib.hid (SA.out.keeps bX)
      replace SB := Lib.hid (SB.out.keeps bX)
      have BB1 := Lib.hid bX
      have TT1 := Lib.hid (T0.out.stays bX)
      clear bX
      go_wp2_with fail
      refine (KA.out _ SA.out).mono ?_
      rintro e z2 ⟨rfl, bX⟩
      replace SA := Lib.hid (SA.out.keeps bX)
      replace SB := Lib.hid (SB.out.keeps bX)
      have BB2 := Lib.hid (bnext BB1.out bX)
      have TT2 := Lib.hid (TT1.out.stays bX)
      clear bX
      go_wp2_with fail
      refine (PS.out _ TT2.out).mono ?_
      rintro e z3 ⟨v, rfl, oX, bX⟩
      obtain ⟨aa3, cc3, rfl, sX⟩ := oX.ou LS.out
      have BB3 := Lib.hid (bnext BB2.out bX)
      have TT3 := Lib.hid (TT2.out.stays bX)
      clear bX
      have RS := Lib.hid sX
      clear sX
      clear oX
      go_wp2_with fail
      go_ret
      exact ⟨rfl, BB3.out⟩
end Go.Proofs.YtcndlcogainnkaaGreatDoor

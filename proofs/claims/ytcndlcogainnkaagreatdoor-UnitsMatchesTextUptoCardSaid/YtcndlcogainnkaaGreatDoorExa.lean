/-
  unit and the examples of the chapter.
-/
import Derived.Test.YtcndlcogainnkaaGreatDoorExp
namespace Go.Proofs.YtcndlcogainnkaaGreatDoor
open Go.RowKit dec

/-- A slice of n factors that is handed back. -/
def Ou (w : World) (v : Value) (n : Nat) (l : List Fa) : Prop := ∃ a cap, v = .slice a n cap ∧ Sl w a n cap l
theorem Out.ou {w : World} {v : Value} {l : List Fa} (h : Out w v l) {n : Nat} (e : l.length = n) : Ou w v n l := by
  obtain ⟨a, c, h1, h2⟩ := h
  rw [e] at h1 h2
  exact ⟨a, c, h1, h2⟩
set_option maxRecDepth 100000 in
theorem unit_any (s : ByteArray) (u : List Fa) (n : Nat) (hn : u.length = n) (h : psE s.data.toList = 0 ∧ psL s.data.toList = u) (hs : s.size ≤ 140737488355328) (w : World) (T : Tabs w) :
    Calls Tryz.prog 26 #[.string s] w fun e w' => ∃ v, e = .returned v ∧ Ou w' v n u ∧ Below w.heap.size w w' := by
  have C := Lib.hid (parse_any s hs w T)
  rw [h.1, h.2] at C
  have N0 := Lib.hid hn
  clear T hs h hn
  go_enter Tryz.func26, Tryz.ntmps26
  go_wp2_with fail
  refine C.out.mono ?_
  rintro e w1 ⟨v, rfl, o1, b1⟩
  have O := Lib.hid (o1.ou N0.out)
  have B := Lib.hid b1
  clear o1 b1
  go_wp2_with fail
  go_ret
  exact ⟨v, rfl, O.out, B.out⟩
theorem sl_lit (w : World) (l : List Fa) (n : Nat) (hn : l.length = n) (cur : Array Value) (h : cur.toList = cs l) (hl : l.length ≤ 1000) : Sl (w.alloc (.cells cur 37)) (some ⟨w.heap.size, 0, none⟩) n n l := by
  have h1 := World.ownsRow_lit (base := w.heap.size) (e := 37) (size := 2) w cur l.length (Nat.le_refl _) (by unfold maxLen; omega) (by rw [← Array.length_toList, h, cs_length])
  rw [h] at h1
  obtain ⟨a, cap, e, S⟩ := Own.sl (v := .slice (some ⟨w.heap.size, 0, none⟩) l.length l.length) h1
  cases e
  rw [hn] at S
  exact S
set_option maxRecDepth 100000 in
set_option maxHeartbeats 2000000 in
theorem example_any (w : World) (T : Tabs w) : Calls Tryz.prog 10 #[] w fun e w' => e = .returned (.bool true) ∧ Below w.heap.size w w' := by
  have T0 := Lib.hid T
  have Um := Lib.hid (fun W T => unit_any ⟨#[109]⟩ [(nM, 1)] 1 rfl (p_of ok_m t_m) (by decide) W T)
  have Usn := Lib.hid (fun W T => unit_any ⟨#[115, 94, 45, 49]⟩ [(nS, -1)] 1 rfl (p_of ok_sn t_sn) (by decide) W T)
  have Umsn := Lib.hid (fun W T => unit_any ⟨#[109, 42, 115, 94, 45, 49]⟩ [(nM, 1), (nS, -1)] 2 rfl (p_of ok_msn t_msn) (by decide) W T)
  have Us := Lib.hid (fun W T => unit_any ⟨#[115]⟩ [(nS, 1)] 1 rfl (p_of ok_s t_s) (by decide) W T)
  have Um8 := Lib.hid (fun W T => unit_any ⟨#[109, 94, 56]⟩ [(nM, 8)] 1 rfl (p_of ok_m8 t_m8) (by decide) W T)
  have Ueh := Lib.hid (fun W T => unit_any ⟨#[101, 117, 114, 42, 104, 94, 45, 49]⟩ [(nE', 1), (nH, -1)] 2 rfl (p_of ok_eh t_eh) (by decide) W T)
  have C1 := Lib.hid (fun a c b d W h1 h2 => times_any a 1 c b 1 d [(nM, 1)] [(nS, -1)] W h1 h2)
  rw [y_1.1, y_1.2] at C1
  have C2 := Lib.hid (fun a c b d W h1 h2 => times_any a 2 c b 1 d [(nM, 1), (nS, -1)] [(nS, 1)] W h1 h2)
  rw [y_2.1, y_2.2] at C2
  have C3 := Lib.hid (fun a c b d W h1 h2 => over_any a 1 c b 1 d [(nM, 1)] [(nM, 1)] W h1 h2)
  rw [y_3.1, y_3.2] at C3
  have C4 := Lib.hid (fun a c b d W h1 h2 => times_any a 1 c b 1 d [(nM, 8)] [(nM, 1)] W h1 h2)
  rw [y_4.1, y_4.2] at C4
  have C5 := Lib.hid (fun a c W h1 => normal_any a 3 c [(nS, 1), (nM, 1), (nS, 1)] W h1 (by decide) (by decide))
  rw [y_5.1, y_5.2] at C5
  have C6 := Lib.hid (fun a c W h T => format_any a 2 c [(nM, 1), (nS, -1)] W h (ok_facts ok_msn).1 (ok_facts ok_msn).2.1 (ok_facts ok_msn).2.2.1 (ok_facts ok_msn).2.2.2 T)
  rw [t_msn] at C6
  have C7 := Lib.hid (fun a c W h T => format_any a 1 c [(nM, 1)] W h (ok_facts ok_m).1 (ok_facts ok_m).2.1 (ok_facts ok_m).2.2.1 (ok_facts ok_m).2.2.2 T)
  rw [t_m] at C7
  have C8 := Lib.hid (fun a c W h T => format_any a 2 c [(nM, 1), (nS, 2)] W h (ok_facts ok_ms2).1 (ok_facts ok_ms2).2.1 (ok_facts ok_ms2).2.2.1 (ok_facts ok_ms2).2.2.2 T)
  rw [t_ms2] at C8
  have C9 := Lib.hid (fun a c W h => check_any a 2 c [(nS, 1), (nM, 1)] W h)
  rw [ck_sm] at C9
  have D1 := Lib.hid (fun a c W h => check_any a 1 c [(nM, 0)] W h)
  rw [ck_m0] at D1
  have D2 := Lib.hid (fun a c W h => check_any a 1 c [(nX, 1)] W h)
  rw [ck_x] at D2
  have P1 := Lib.hid (fun W T => parse_any ⟨#[109, 94, 49]⟩ (by decide) W T)
  rw [show psE _ = 3 from x_1.1, show psL _ = [] from x_1.2] at P1
  have P2 := Lib.hid (fun W T => parse_any ⟨#[115, 42, 109]⟩ (by decide) W T)
  rw [show psE _ = 3 from x_2.1, show psL _ = [] from x_2.2] at P2
  have P3 := Lib.hid (fun W T => parse_any ⟨#[109, 94, 48, 50]⟩ (by decide) W T)
  rw [show psE _ = 3 from x_3.1, show psL _ = [] from x_3.2] at P3
  have P4 := Lib.hid (fun W T => parse_any ⟨#[109, 42]⟩ (by decide) W T)
  rw [show psE _ = 3 from x_4.1, show psL _ = [] from x_4.2] at P4
  have D3 := Lib.hid (fun a c b d W h1 h2 => same_any a 2 c b 2 d [(nE', 1), (nH, -1)] [(nE', 1), (nH, -1)] W h1 h2)
  rw [show sameB [(nE', 1), (nH, -1)] [(nE', 1), (nH, -1)] = true from decide_eq_true rfl] at D3
  have B0 := Lib.hid (b0 w)
  clear T
  go_enter Tryz.func10, Tryz.ntmps10
  go_wp2_with fail
  refine (Um.out _ T0.out).mono ?_
  rintro e z1 ⟨v, rfl, ⟨aA1, cA1, rfl, sX⟩, bX⟩
  have B1 := Lib.hid (bnext B0.out bX)
  have T1 := Lib.hid (T0.out.stays bX)
  clear bX B0 T0
  have A1 := Lib.hid sX
  clear sX
  go_wp2_with fail
  refine (Usn.out _ T1.out).mono ?_
  rintro e z2 ⟨v, rfl, ⟨aA2, cA2, rfl, sX⟩, bX⟩
  replace A1 := Lib.hid (A1.out.keeps bX)
  have B2 := Lib.hid (bnext B1.out bX)
  have T2 := Lib.hid (T1.out.stays bX)
  clear bX B1 T1
  have A2 := Lib.hid sX
  clear sX
  go_wp2_with fail
  refine (C1.out _ _ _ _ _ A1.out A2.out).mono ?_
  rintro e z3 ⟨v, rfl, oX, bX⟩
  replace A1 := Lib.hid (A1.out.keeps bX)
  replace A2 := Lib.hid (A2.out.keeps bX)
  have B3 := Lib.hid (bnext B2.out bX)
  have T3 := Lib.hid (T2.out.stays bX)
  clear bX B2 T2
  obtain ⟨aRA, cRA, rfl, sX⟩ := oX.ou (n := 2) rfl
  have RA := Lib.hid sX
  clear sX oX
  go_wp2_with fail
  refine (Umsn.out _ T3.out).mono ?_
  rintro e z4 ⟨v, rfl, ⟨aA3, cA3, rfl, sX⟩, bX⟩
  replace RA := Lib.hid (RA.out.keeps bX)
  have B4 := Lib.hid (bnext B3.out bX)
  have T4 := Lib.hid (T3.out.stays bX)
  clear bX B3 T3
  have A3 := Lib.hid sX
  clear sX
  go_wp2_with fail
  refine (Us.out _ T4.out).mono ?_
  rintro e z5 ⟨v, rfl, ⟨aA4, cA4, rfl, sX⟩, bX⟩
  replace RA := Lib.hid (RA.out.keeps bX)
  replace A3 := Lib.hid (A3.out.keeps bX)
  have B5 := Lib.hid (bnext B4.out bX)
  have T5 := Lib.hid (T4.out.stays bX)
  clear bX B4 T4
  have A4 := Lib.hid sX
  clear sX
  go_wp2_with fail
  refine (C2.out _ _ _ _ _ A3.out A4.out).mono ?_
  rintro e z6 ⟨v, rfl, oX, bX⟩
  replace RA := Lib.hid (RA.out.keeps bX)
  replace A3 := Lib.hid (A3.out.keeps bX)
  replace A4 := Lib.hid (A4.out.keeps bX)
  have B6 := Lib.hid (bnext B5.out bX)
  have T6 := Lib.hid (T5.out.stays bX)
  clear bX B5 T5
  obtain ⟨aRB, cRB, rfl, sX⟩ := oX.ou (n := 1) rfl
  have RB := Lib.hid sX
  clear sX oX
  go_wp2_with fail
  refine (Um.out _ T6.out).mono ?_
  rintro e z7 ⟨v, rfl, ⟨aA5, cA5, rfl, sX⟩, bX⟩
  replace RA := Lib.hid (RA.out.keeps bX)
  replace RB := Lib.hid (RB.out.keeps bX)
  have B7 := Lib.hid (bnext B6.out bX)
  have T7 := Lib.hid (T6.out.stays bX)
  clear bX B6 T6
  have A5 := Lib.hid sX
  clear sX
  go_wp2_with fail
  refine (Um.out _ T7.out).mono ?_
  rintro e z8 ⟨v, rfl, ⟨aA6, cA6, rfl, sX⟩, bX⟩
  replace RA := Lib.hid (RA.out.keeps bX)
  replace RB := Lib.hid (RB.out.keeps bX)
  replace A5 := Lib.hid (A5.out.keeps bX)
  have B8 := Lib.hid (bnext B7.out bX)
  have T8 := Lib.hid (T7.out.stays bX)
  clear bX B7 T7
  have A6 := Lib.hid sX
  clear sX
  go_wp2_with fail
  refine (C3.out _ _ _ _ _ A5.out A6.out).mono ?_
  rintro e z9 ⟨v, rfl, oX, bX⟩
  replace RA := Lib.hid (RA.out.keeps bX)
  replace RB := Lib.hid (RB.out.keeps bX)
  replace A5 := Lib.hid (A5.out.keeps bX)
  replace A6 := Lib.hid (A6.out.keeps bX)
  have B9 := Lib.hid (bnext B8.out bX)
  have T9 := Lib.hid (T8.out.stays bX)
  clear bX B8 T8
  obtain ⟨aRC, cRC, rfl, sX⟩ := oX.ou (n := 0) rfl
  have RC := Lib.hid sX
  clear sX oX
  go_wp2_with fail
  refine (Um8.out _ T9.out).mono ?_
  rintro e z10 ⟨v, rfl, ⟨aA7, cA7, rfl, sX⟩, bX⟩
  replace RA := Lib.hid (RA.out.keeps bX)
  replace RB := Lib.hid (RB.out.keeps bX)
  have B10 := Lib.hid (bnext B9.out bX)
  have T10 := Lib.hid (T9.out.stays bX)
  clear bX B9 T9
  have A7 := Lib.hid sX
  clear sX
  go_wp2_with fail
  refine (Um.out _ T10.out).mono ?_
  rintro e z11 ⟨v, rfl, ⟨aA8, cA8, rfl, sX⟩, bX⟩
  replace RA := Lib.hid (RA.out.keeps bX)
  replace RB := Lib.hid (RB.out.keeps bX)
  replace A7 := Lib.hid (A7.out.keeps bX)
  have B11 := Lib.hid (bnext B10.out bX)
  have T11 := Lib.hid (T10.out.stays bX)
  clear bX B10 T10
  have A8 := Lib.hid sX
  clear sX
  go_wp2_with fail
  refine (C4.out _ _ _ _ _ A7.out A8.out).mono ?_
  rintro e z12 ⟨v, rfl, oX, bX⟩
  replace RA := Lib.hid (RA.out.keeps bX)
  replace RB := Lib.hid (RB.out.keeps bX)
  replace A7 := Lib.hid (A7.out.keeps bX)
  replace A8 := Lib.hid (A8.out.keeps bX)
  have B12 := Lib.hid (bnext B11.out bX)
  have T12 := Lib.hid (T11.out.stays bX)
  clear bX B11 T11
  clear oX
  go_wp2_with fail
  have L1 := Lib.hid (sl_lit z12 [(nS, 1), (nM, 1), (nS, 1)] 3 rfl #[.string ⟨#[115]⟩, .int .i64 1, .string ⟨#[109]⟩, .int .i64 1, .string ⟨#[115]⟩, .int .i64 1] rfl (by decide))
  have bX := balloc (b0 z12) (.cells #[.string ⟨#[115]⟩, .int .i64 1, .string ⟨#[109]⟩, .int .i64 1, .string ⟨#[115]⟩, .int .i64 1] 37)
  replace RA := Lib.hid (RA.out.keeps bX)
  replace RB := Lib.hid (RB.out.keeps bX)
  have B12L := Lib.hid (bnext B12.out bX)
  have T12L := Lib.hid (T12.out.stays bX)
  clear bX B12 T12
  refine (C5.out _ _ _ L1.out).mono ?_
  rintro e z13 ⟨v, rfl, oX, bX⟩
  replace RA := Lib.hid (RA.out.keeps bX)
  replace RB := Lib.hid (RB.out.keeps bX)
  have B13 := Lib.hid (bnext B12L.out bX)
  have T13 := Lib.hid (T12L.out.stays bX)
  clear bX B12L T12L
  obtain ⟨aRE, cRE, rfl, sX⟩ := oX.ou (n := 2) rfl
  have RE := Lib.hid sX
  clear sX oX
  go_wp2_with fail
  refine (C6.out _ _ _ RA.out T13.out).mono ?_
  rintro e z14 ⟨rfl, bX⟩
  replace RA := Lib.hid (RA.out.keeps bX)
  replace RB := Lib.hid (RB.out.keeps bX)
  replace RE := Lib.hid (RE.out.keeps bX)
  have B14 := Lib.hid (bnext B13.out bX)
  have T14 := Lib.hid (T13.out.stays bX)
  clear bX B13 T13
  go_wp2_with fail
  refine (C7.out _ _ _ RB.out T14.out).mono ?_
  rintro e z15 ⟨rfl, bX⟩
  replace RA := Lib.hid (RA.out.keeps bX)
  replace RB := Lib.hid (RB.out.keeps bX)
  replace RE := Lib.hid (RE.out.keeps bX)
  have B15 := Lib.hid (bnext B14.out bX)
  have T15 := Lib.hid (T14.out.stays bX)
  clear bX B14 T14
  go_wp2_with fail
  refine (C8.out _ _ _ RE.out T15.out).mono ?_
  rintro e z16 ⟨rfl, bX⟩
  replace RA := Lib.hid (RA.out.keeps bX)
  replace RB := Lib.hid (RB.out.keeps bX)
  replace RE := Lib.hid (RE.out.keeps bX)
  have B16 := Lib.hid (bnext B15.out bX)
  have T16 := Lib.hid (T15.out.stays bX)
  clear bX B15 T15
  go_wp2_with fail
  have L2 := Lib.hid (sl_lit z16 [(nS, 1), (nM, 1)] 2 rfl #[.string ⟨#[115]⟩, .int .i64 1, .string ⟨#[109]⟩, .int .i64 1] rfl (by decide))
  have bX := balloc (b0 z16) (.cells #[.string ⟨#[115]⟩, .int .i64 1, .string ⟨#[109]⟩, .int .i64 1] 37)
  have B16L := Lib.hid (bnext B16.out bX)
  have T16L := Lib.hid (T16.out.stays bX)
  clear bX B16 T16
  refine (C9.out _ _ _ L2.out).mono ?_
  rintro e z17 ⟨rfl, bX⟩
  have B17 := Lib.hid (bnext B16L.out bX)
  have T17 := Lib.hid (T16L.out.stays bX)
  clear bX B16L T16L
  go_wp2_with fail
  have L3 := Lib.hid (sl_lit z17 [(nM, 0)] 1 rfl #[.string ⟨#[109]⟩, .int .i64 0] rfl (by decide))
  have bX := balloc (b0 z17) (.cells #[.string ⟨#[109]⟩, .int .i64 0] 37)
  have B17L := Lib.hid (bnext B17.out bX)
  have T17L := Lib.hid (T17.out.stays bX)
  clear bX B17 T17
  refine (D1.out _ _ _ L3.out).mono ?_
  rintro e z18 ⟨rfl, bX⟩
  have B18 := Lib.hid (bnext B17L.out bX)
  have T18 := Lib.hid (T17L.out.stays bX)
  clear bX B17L T17L
  go_wp2_with fail
  have L4 := Lib.hid (sl_lit z18 [(nX, 1)] 1 rfl #[.string ⟨#[77]⟩, .int .i64 1] rfl (by decide))
  have bX := balloc (b0 z18) (.cells #[.string ⟨#[77]⟩, .int .i64 1] 37)
  have B18L := Lib.hid (bnext B18.out bX)
  have T18L := Lib.hid (T18.out.stays bX)
  clear bX B18 T18
  refine (D2.out _ _ _ L4.out).mono ?_
  rintro e z19 ⟨rfl, bX⟩
  have B19 := Lib.hid (bnext B18L.out bX)
  have T19 := Lib.hid (T18L.out.stays bX)
  clear bX B18L T18L
  go_wp2_with fail
  refine (P1.out _ T19.out).mono ?_
  rintro e z20 ⟨vP1, rfl, oX, bX⟩
  clear oX
  have B20 := Lib.hid (bnext B19.out bX)
  have T20 := Lib.hid (T19.out.stays bX)
  clear bX B19 T19
  go_wp2_with fail
  refine (P2.out _ T20.out).mono ?_
  rintro e z21 ⟨vP2, rfl, oX, bX⟩
  clear oX
  have B21 := Lib.hid (bnext B20.out bX)
  have T21 := Lib.hid (T20.out.stays bX)
  clear bX B20 T20
  go_wp2_with fail
  refine (P3.out _ T21.out).mono ?_
  rintro e z22 ⟨vP3, rfl, oX, bX⟩
  clear oX
  have B22 := Lib.hid (bnext B21.out bX)
  have T22 := Lib.hid (T21.out.stays bX)
  clear bX B21 T21
  go_wp2_with fail
  refine (P4.out _ T22.out).mono ?_
  rintro e z23 ⟨vP4, rfl, oX, bX⟩
  clear oX
  have B23 := Lib.hid (bnext B22.out bX)
  have T23 := Lib.hid (T22.out.stays bX)
  clear bX B22 T22
  go_wp2_with fail
  refine (Ueh.out _ T23.out).mono ?_
  rintro e z24 ⟨v, rfl, ⟨aA9, cA9, rfl, sX⟩, bX⟩
  have B24 := Lib.hid (bnext B23.out bX)
  have T24 := Lib.hid (T23.out.stays bX)
  clear bX B23 T23
  have A9 := Lib.hid sX
  clear sX
  go_wp2_with fail
  have L5 := Lib.hid (sl_lit z24 [(nE', 1), (nH, -1)] 2 rfl #[.string ⟨#[101, 117, 114]⟩, .int .i64 1, .string ⟨#[104]⟩, .int .i64 (-1)] rfl (by decide))
  have bX := balloc (b0 z24) (.cells #[.string ⟨#[101, 117, 114]⟩, .int .i64 1, .string ⟨#[104]⟩, .int .i64 (-1)] 37)
  replace A9 := Lib.hid (A9.out.keeps bX)
  have B24L := Lib.hid (bnext B24.out bX)
  have T24L := Lib.hid (T24.out.stays bX)
  clear bX B24 T24
  refine (D3.out _ _ _ _ _ A9.out L5.out).mono ?_
  rintro e z25 ⟨rfl, bX⟩
  replace A9 := Lib.hid (A9.out.keeps bX)
  have B25 := Lib.hid (bnext B24L.out bX)
  have T25 := Lib.hid (T24L.out.stays bX)
  clear bX B24L T24L
  go_wp2_with fail
  go_ret
  exact ⟨rfl, B25.out⟩
end Go.Proofs.YtcndlcogainnkaaGreatDoor

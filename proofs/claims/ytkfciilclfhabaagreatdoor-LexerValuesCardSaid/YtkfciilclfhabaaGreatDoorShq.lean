/-
  The shape of what a string begins with: lexer.shape.
-/
import Derived.Test.YtkfciilclfhabaaGreatDoorShp
namespace Go.Proofs.YtkfciilclfhabaaGreatDoor
open Go.RowKit dec

theorem run0_any {st : Int} {p : UInt8 → Bool} (hst : Set st p) (s : ByteArray) (hs : s.size ≤ 140737488355328) (b : Nat) (w : World) (hb : w.cell? ⟨b, 0, none⟩ = some (.string s)) (T : Tabs w) :
    Calls Tryz.prog 79 #[.int .i64 0, .int .i64 st, .pointer (some ⟨b, 0, none⟩)] w fun e w' => e = .returned (.int .i64 (run p s.data.toList : Nat)) ∧ w' = w := by
  have := run_any hst s hs 0 (Nat.zero_le _) b w hb T
  rw [List.drop_zero, Nat.zero_add] at this
  exact this
theorem run1_any {st : Int} {p : UInt8 → Bool} (hst : Set st p) (s : ByteArray) (hs : s.size ≤ 140737488355328) (i : Nat) (hi : i + 1 ≤ s.size) (b : Nat) (w : World) (hb : w.cell? ⟨b, 0, none⟩ = some (.string s)) (T : Tabs w) :
    Calls Tryz.prog 79 #[.int .i64 ((i : Nat) + 1), .int .i64 st, .pointer (some ⟨b, 0, none⟩)] w fun e w' => e = .returned (.int .i64 ((i + 1 + run p (s.data.toList.drop (i + 1)) : Nat) : Int)) ∧ w' = w :=
  run_any hst s hs (i + 1) hi b w hb T
theorem shp_at (s : ByteArray) (h0 : 0 < s.size) : s.data.toList = s[0] :: s.data.toList.drop 1 := by
  have e := at_drop s h0
  rwa [List.drop_zero] at e
theorem shp_L (s : ByteArray) (h0 : 0 < s.size) (h : isL s[0] = true) : shp s.data.toList = (1, run isW s.data.toList) := by
  have e := shp_at s h0
  rw [e, shp_cons, if_pos h]
theorem not_LD {c : UInt8} (h : isL c = true) : isD c = false := by
  cases hd : isD c
  · rfl
  · exact absurd h (isL_D hd)
theorem shp_D (s : ByteArray) (h0 : 0 < s.size) (h : isD s[0] = true) : shp s.data.toList = if pnt (s.data.toList.drop (run isD s.data.toList)) = 0 then (2, run isD s.data.toList) else (3, run isD s.data.toList + 1 + pnt (s.data.toList.drop (run isD s.data.toList))) := by
  have e := shp_at s h0
  rw [e, shp_cons, if_neg (isL_D h), if_pos h]
theorem pnt_hit {l : List UInt8} (h : l.head? = some 46) : pnt l = run isD (l.drop 1) := by
  cases l with
  | nil => cases h
  | cons c r =>
    rw [List.head?_cons, Option.some.injEq] at h
    rw [pnt_cons, if_pos (by rw [h]; rfl)]
    rfl
theorem pnt_miss {l : List UInt8} (h : l.head? ≠ some 46) : pnt l = 0 := by
  cases l with
  | nil => rfl
  | cons c r =>
    rw [List.head?_cons, ne_eq, Option.some.injEq] at h
    rw [pnt_cons, if_neg (fun e => h (UInt8.toNat_inj.1 (e.trans rfl)))]
theorem head_drop (s : ByteArray) (n : Nat) : (s.data.toList.drop n).head? = if h : n < s.size then some s[n] else none := by
  by_cases h : n < s.size
  · rw [dif_pos h, at_drop s h]
    rfl
  · rw [dif_neg h, List.drop_eq_nil_of_le (by rw [str_len]; omega)]
    rfl
theorem shp_Q (s : ByteArray) (h0 : 0 < s.size) (h : s[0].toNat = 34) : shp s.data.toList = if (s.data.toList.drop (1 + run isQ (s.data.toList.drop 1))).head? = some 34 then (4, 1 + run isQ (s.data.toList.drop 1) + 1) else sgn s.data.toList := by
  have e := shp_at s h0
  have h1 : ¬ isL s[0] = true := by unfold isL; rw [h]; decide
  have h2 : ¬ isD s[0] = true := by unfold isD; rw [h]; decide
  generalize s.data.toList.drop 1 = r at e
  rw [e, shp_cons, if_neg h1, if_neg h2, Nat.add_comm 1 (run isQ r), List.drop_succ_cons]
  simp only [h, true_and]
theorem shp_S (s : ByteArray) (h0 : 0 < s.size) (h1 : isL s[0] = false) (h2 : isD s[0] = false) (h : s[0].toNat ≠ 34) : shp s.data.toList = sgn s.data.toList := by
  have e := shp_at s h0
  generalize s.data.toList.drop 1 = r at e
  rw [e, shp_cons, if_neg (by rw [h1]; decide), if_neg (by rw [h2]; decide), if_neg (by omega)]
theorem ret_shp {k : Int} {n : Nat} {q : Int × Nat} (h : q = (k, n)) : Ending.returned (Value.tuple #[.int .i64 k, .int .i64 (n : Nat)]) = .returned (.tuple #[.int .i64 q.1, .int .i64 (q.2 : Nat)]) := by rw [h]
set_option maxRecDepth 100000 in
set_option maxHeartbeats 4000000 in
theorem shape_any (s : ByteArray) (hs : s.size ≤ 140737488355328) (w : World) (T : Tabs w) :
    Calls Tryz.prog 26 #[.string s] w fun e w' => e = .returned (.tuple #[.int .i64 (shp s.data.toList).1, .int .i64 ((shp s.data.toList).2 : Nat)]) ∧ Below w.heap.size w w' := by
  by_cases h0 : 0 < s.size
  · have q1 : (s.toList == []) = false := by rw [toList_nil]; exact decide_eq_false (by omega)
    have RC := Lib.hid (runsOf_any s w)
    have T0 := Lib.hid T
    have C := Lib.hid (fun W T => classOf_any s[0] W T)
    have SG := Lib.hid (fun W T => signShape_any s h0 W T)
    obtain ⟨_, k4, k5, k7⟩ := cls_is s[0]
    have fL := Lib.hid (shp_L s h0)
    have fD := Lib.hid (shp_D s h0)
    have fQ := Lib.hid (shp_Q s h0)
    have fS := Lib.hid (shp_S s h0)
    obtain ⟨g, hg⟩ : ∃ g, shp s.data.toList = g := ⟨_, rfl⟩
    rw [hg] at fL fD fQ fS ⊢
    clear hg T
    cases hL : isL s[0]
    · cases hD : isD s[0]
      · by_cases h34 : s[0].toNat = 34
        · rw [hL] at k4
          rw [hD] at k5
          rw [decide_eq_true h34] at k7
          have hgQ := fQ.out h34
          have hnz := run_size isQ s (i := 1) h0
          obtain ⟨n, hn⟩ : ∃ n, 1 + run isQ (s.data.toList.drop 1) = n := ⟨_, rfl⟩
          have CQ := Lib.hid (fun W h T => (run_any set_Q s hs 1 h0 w.heap.size W h T : Calls Tryz.prog 79 #[.int .i64 1, .int .i64 (-133), .pointer (some ⟨w.heap.size, 0, none⟩)] W fun e w' => e = .returned (.int .i64 ((1 + run isQ (s.data.toList.drop 1) : Nat) : Int)) ∧ w' = W))
          rw [hn] at CQ hgQ hnz
          rw [head_drop] at hgQ
          generalize cls s[0] = k at C k4 k5 k7
          clear hL hD h34 fL fD fQ fS hn
          generalize sgn s.data.toList = q at *
          by_cases hc : n < s.size
          · rw [dif_pos hc] at hgQ
            have q2 : decide ((n : Int) < (s.size : Int)) = true := decide_eq_true (by omega)
            have C2 := Lib.hid (fun W T => classOf_any s[n] W T)
            have k77 := (cls_is s[n]).2.2.2
            generalize cls s[n] = kk at C2 k77
            by_cases h2 : s[n].toNat = 34
            · rw [if_pos (by rw [show s[n] = 34 from UInt8.toNat_inj.1 h2])] at hgQ
              rw [decide_eq_true h2] at k77
              replace hgQ := Lib.hid hgQ
              clear h2 SG
              go_enter Tryz.func26, Tryz.ntmps26
              go_wp2_with fail
              refine RC.out.mono ?_
              rintro e w1 ⟨rfl, c1, z1, b1⟩
              have B1 := Lib.hid b1
              have T1 := Lib.hid (T0.out.stays b1)
              clear b1 z1
              go_wp2_with fail
              refine (C.out _ T1.out).mono ?_
              rintro e w2 ⟨rfl, rfl⟩
              have CQ1 := Lib.hid (CQ.out w2 c1 T1.out)
              go_wp2_with fail
              refine CQ1.out.mono ?_
              rintro e w3 ⟨rfl, rfl⟩
              go_wp2_with fail
              refine (C2.out _ T1.out).mono ?_
              rintro e w3 ⟨rfl, rfl⟩
              go_wp2_with fail
              go_ret2
              exact ⟨by rw [hgQ.out]; rfl, B1.out⟩
            · rw [if_neg (by intro e; apply h2; rw [Option.some.inj e]; rfl)] at hgQ
              rw [decide_eq_false h2] at k77
              replace hgQ := Lib.hid hgQ
              clear h2
              go_enter Tryz.func26, Tryz.ntmps26
              go_wp2_with fail
              refine RC.out.mono ?_
              rintro e w1 ⟨rfl, c1, z1, b1⟩
              have B1 := Lib.hid b1
              have T1 := Lib.hid (T0.out.stays b1)
              clear b1 z1
              go_wp2_with fail
              refine (C.out _ T1.out).mono ?_
              rintro e w2 ⟨rfl, rfl⟩
              have CQ1 := Lib.hid (CQ.out w2 c1 T1.out)
              go_wp2_with fail
              refine CQ1.out.mono ?_
              rintro e w3 ⟨rfl, rfl⟩
              go_wp2_with fail
              refine (C2.out _ T1.out).mono ?_
              rintro e w3 ⟨rfl, rfl⟩
              go_wp2_with fail
              refine (SG.out _ T1.out).mono ?_
              rintro e w3 ⟨rfl, rfl⟩
              go_wp2_with fail
              go_ret2
              exact ⟨by rw [hgQ.out]; rfl, B1.out⟩
          · rw [dif_neg hc, if_neg (by intro e; cases e)] at hgQ
            have q2 : decide ((n : Int) < (s.size : Int)) = false := decide_eq_false (by omega)
            replace hgQ := Lib.hid hgQ
            go_enter Tryz.func26, Tryz.ntmps26
            go_wp2_with fail
            refine RC.out.mono ?_
            rintro e w1 ⟨rfl, c1, z1, b1⟩
            have B1 := Lib.hid b1
            have T1 := Lib.hid (T0.out.stays b1)
            clear b1 z1
            go_wp2_with fail
            refine (C.out _ T1.out).mono ?_
            rintro e w2 ⟨rfl, rfl⟩
            have CQ1 := Lib.hid (CQ.out w2 c1 T1.out)
            go_wp2_with fail
            refine CQ1.out.mono ?_
            rintro e w3 ⟨rfl, rfl⟩
            go_wp2_with fail
            refine (SG.out _ T1.out).mono ?_
            rintro e w3 ⟨rfl, rfl⟩
            go_wp2_with fail
            go_ret2
            exact ⟨by rw [hgQ.out]; rfl, B1.out⟩
        · rw [hL] at k4
          rw [hD] at k5
          rw [decide_eq_false h34] at k7
          have hgS := Lib.hid (fS.out hL hD h34)
          generalize cls s[0] = k at C k4 k5 k7
          clear hL hD h34 fL fD fQ fS
          generalize sgn s.data.toList = q at *
          go_enter Tryz.func26, Tryz.ntmps26
          go_wp2_with fail
          refine RC.out.mono ?_
          rintro e w1 ⟨rfl, c1, z1, b1⟩
          have B1 := Lib.hid b1
          have T1 := Lib.hid (T0.out.stays b1)
          clear b1 z1
          go_wp2_with fail
          refine (C.out _ T1.out).mono ?_
          rintro e w2 ⟨rfl, rfl⟩
          go_wp2_with fail
          refine (SG.out _ T1.out).mono ?_
          rintro e w2 ⟨rfl, rfl⟩
          go_wp2_with fail
          go_ret2
          exact ⟨by rw [hgS.out]; rfl, B1.out⟩
      · rw [hL] at k4
        rw [hD] at k5
        have hgD := fD.out hD
        have hnz := run_size isD s (i := 0) (Nat.zero_le _)
        rw [List.drop_zero, Nat.zero_add] at hnz
        have CD := Lib.hid (fun W h T => run0_any set_D s hs w.heap.size W h T)
        have CE := Lib.hid (fun i hi W h T => run1_any set_D s hs i hi w.heap.size W h T)
        obtain ⟨n, hn⟩ : ∃ n, run isD s.data.toList = n := ⟨_, rfl⟩
        rw [hn] at CD hgD hnz
        have HP := Lib.hid (fun W => Tryz.strings_HasPrefix (s.extract n s.size) ⟨#[46]⟩ W)
        rw [ext_tail, show (⟨#[46]⟩ : ByteArray).data.toList = [46] from rfl, pre_dot] at HP
        generalize cls s[0] = k at C k4 k5 k7
        clear hL hD fL fD fQ fS hn SG k7
        by_cases hh : (s.data.toList.drop n).head? = some 46
        · have hnl : n < s.size := by
            rcases Nat.lt_or_ge n s.size with h1 | h1
            · exact h1
            · rw [head_drop, dif_neg (by omega)] at hh
              cases hh
          have hmz := run_size isD s (i := n + 1) hnl
          rw [decide_eq_true hh] at HP
          rw [pnt_hit hh, List.drop_drop] at hgD
          have CE1 := Lib.hid (CE.out n hnl)
          generalize run isD (s.data.toList.drop (n + 1)) = m at *
          clear hh CE
          by_cases hm : m = 0
          · subst hm
            rw [if_pos rfl] at hgD
            replace hgD := Lib.hid hgD
            rw [Nat.add_zero] at CE1
            have q3 : decide (((n : Int) + 1) < ((n + 1 : Nat) : Int)) = false := decide_eq_false (by omega)
            go_enter Tryz.func26, Tryz.ntmps26
            go_wp2_with fail
            refine RC.out.mono ?_
            rintro e w1 ⟨rfl, c1, z1, b1⟩
            have B1 := Lib.hid b1
            have T1 := Lib.hid (T0.out.stays b1)
            clear b1 z1
            go_wp2_with fail
            refine (C.out _ T1.out).mono ?_
            rintro e w2 ⟨rfl, rfl⟩
            have CD1 := Lib.hid (CD.out w2 c1 T1.out)
            have CE2 := Lib.hid (CE1.out w2 c1 T1.out)
            go_wp2_with fail
            refine CD1.out.mono ?_
            rintro e w3 ⟨rfl, rfl⟩
            go_wp2_with fail
            refine (HP.out _).mono ?_
            rintro e w3 ⟨rfl, rfl⟩
            go_wp2_with fail
            refine CE2.out.mono ?_
            rintro e w3 ⟨rfl, rfl⟩
            go_wp2_with fail
            go_ret2
            exact ⟨by rw [hgD.out]; rfl, B1.out⟩
          · rw [if_neg hm] at hgD
            replace hgD := Lib.hid hgD
            have q3 : decide (((n : Int) + 1) < ((n + 1 + m : Nat) : Int)) = true := decide_eq_true (by omega)
            go_enter Tryz.func26, Tryz.ntmps26
            go_wp2_with fail
            refine RC.out.mono ?_
            rintro e w1 ⟨rfl, c1, z1, b1⟩
            have B1 := Lib.hid b1
            have T1 := Lib.hid (T0.out.stays b1)
            clear b1 z1
            go_wp2_with fail
            refine (C.out _ T1.out).mono ?_
            rintro e w2 ⟨rfl, rfl⟩
            have CD1 := Lib.hid (CD.out w2 c1 T1.out)
            have CE2 := Lib.hid (CE1.out w2 c1 T1.out)
            go_wp2_with fail
            refine CD1.out.mono ?_
            rintro e w3 ⟨rfl, rfl⟩
            go_wp2_with fail
            refine (HP.out _).mono ?_
            rintro e w3 ⟨rfl, rfl⟩
            go_wp2_with fail
            refine CE2.out.mono ?_
            rintro e w3 ⟨rfl, rfl⟩
            go_wp2_with fail
            refine CE2.out.mono ?_
            rintro e w3 ⟨rfl, rfl⟩
            go_wp2_with fail
            go_ret2
            exact ⟨by rw [hgD.out]; rfl, B1.out⟩
        · rw [decide_eq_false hh] at HP
          rw [pnt_miss hh, if_pos rfl] at hgD
          replace hgD := Lib.hid hgD
          clear hh CE
          go_enter Tryz.func26, Tryz.ntmps26
          go_wp2_with fail
          refine RC.out.mono ?_
          rintro e w1 ⟨rfl, c1, z1, b1⟩
          have B1 := Lib.hid b1
          have T1 := Lib.hid (T0.out.stays b1)
          clear b1 z1
          go_wp2_with fail
          refine (C.out _ T1.out).mono ?_
          rintro e w2 ⟨rfl, rfl⟩
          have CD1 := Lib.hid (CD.out w2 c1 T1.out)
          go_wp2_with fail
          refine CD1.out.mono ?_
          rintro e w3 ⟨rfl, rfl⟩
          go_wp2_with fail
          refine (HP.out _).mono ?_
          rintro e w3 ⟨rfl, rfl⟩
          go_wp2_with fail
          go_ret2
          exact ⟨by rw [hgD.out]; rfl, B1.out⟩
    · have hgL := Lib.hid (fL.out hL)
      rw [hL] at k4
      generalize cls s[0] = k at C k4 k5 k7
      clear hL fL fD fQ fS k5 k7 SG
      go_enter Tryz.func26, Tryz.ntmps26
      go_wp2_with fail
      refine RC.out.mono ?_
      rintro e w1 ⟨rfl, c1, z1, b1⟩
      have B1 := Lib.hid b1
      have T1 := Lib.hid (T0.out.stays b1)
      have CW := Lib.hid (run0_any set_W s hs w.heap.size w1 c1 T1.out)
      clear b1 z1
      generalize run isW s.data.toList = n at *
      go_wp2_with fail
      refine (C.out _ T1.out).mono ?_
      rintro e w2 ⟨rfl, rfl⟩
      go_wp2_with fail
      refine CW.out.mono ?_
      rintro e w2 ⟨rfl, rfl⟩
      go_wp2_with fail
      go_ret2
      exact ⟨by rw [hgL.out]; rfl, B1.out⟩
  · have q1 : (s.toList == []) = true := by rw [toList_nil]; exact decide_eq_true (by omega)
    have hn : s.data.toList = [] := List.eq_nil_of_length_eq_zero (by rw [str_len]; omega)
    have hg := Lib.hid (show shp s.data.toList = (0, 0) by rw [hn]; rfl)
    clear T hn hs
    go_enter Tryz.func26, Tryz.ntmps26
    go_wp2_with fail
    go_ret2
    exact ⟨by rw [hg.out]; rfl, b0 w⟩
end Go.Proofs.YtkfciilclfhabaaGreatDoor

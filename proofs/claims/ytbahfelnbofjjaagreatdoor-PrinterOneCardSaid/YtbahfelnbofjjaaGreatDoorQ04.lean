/-
  The shape of what a string begins with; The shape of what a string begins with: lexer.shape; values.Check and Has, and the reference's: for every value; What a token's text is, and the codes of problems; Tokens alone, keywords, names; Keywords and names; lexer.Name of a string of any length; Units as plain data: words, checks, products, texts; nothing of the program; Expressions, types, tables as 
-/
import Derived.WalkKit
import Derived.Lib.Strings
import Derived.Lib.ItoaNum
import Derived.Lib.Join
import Derived.Lib.AtoiAll
import Derived.Test.YtbahfelnbofjjaaGreatDoorQ02
import Derived.Test.YtbahfelnbofjjaaGreatDoorQ03
namespace Go.Proofs.YtbahfelnbofjjaaGreatDoor
open Go.RowKit dec

theorem toList_nil (s : ByteArray) : (s.toList == []) = decide (s.size = 0) := by
  rw [ByteArray.toList_eq, Lib.size_eq s]
  cases s.data.toList <;> simp
theorem ext_data (s : ByteArray) (i j : Nat) : (s.extract i j).data.toList = (s.data.toList.drop i).take (j - i) := by
  rw [ByteArray.data_extract, Array.toList_extract, List.extract_eq_take_drop]
theorem ext_tail (s : ByteArray) (i : Nat) : (s.extract i s.size).data.toList = s.data.toList.drop i := by
  rw [ext_data, List.take_of_length_le]
  rw [List.length_drop, str_len]
  omega
theorem pre_two (c : UInt8) (r : List UInt8) (a : UInt8) : Lib.hasPrefix (c :: r) [a, 61] = decide (c = a ∧ r.head? = some 61) := by
  cases r with
  | nil =>
    rw [Bool.eq_iff_iff]
    simp [Lib.hasPrefix, List.isPrefixOf]
  | cons d r =>
    rw [Bool.eq_iff_iff]
    simp only [Lib.hasPrefix, List.isPrefixOf, Bool.and_eq_true, beq_iff_eq, List.head?_cons, Option.some.injEq, decide_eq_true_eq, Bool.and_true]
    constructor
    · rintro ⟨h1, h2⟩; exact ⟨h1.symm, h2.symm⟩
    · rintro ⟨h1, h2⟩; exact ⟨h1.symm, h2.symm⟩
theorem pre_dot (l : List UInt8) : Lib.hasPrefix l [46] = decide (l.head? = some 46) := by
  cases l with
  | nil => rfl
  | cons d r =>
    rw [Bool.eq_iff_iff]
    simp only [Lib.hasPrefix, List.isPrefixOf, beq_iff_eq, List.head?_cons, Option.some.injEq, decide_eq_true_eq, Bool.and_true]
    exact eq_comm
theorem u8_is {c : UInt8} {n : Nat} (d : UInt8) (hd : d.toNat = n) : c.toNat = n ↔ c = d := by
  rw [← hd]
  exact ⟨fun h => UInt8.toNat_inj.1 h, fun h => by rw [h]⟩
theorem sgn_parts (c : UInt8) (r : List UInt8) : sgn (c :: r) = if (Lib.hasPrefix (c :: r) [61, 61] || Lib.hasPrefix (c :: r) [33, 61] || Lib.hasPrefix (c :: r) [60, 61]) = true then (5, 2) else if isS c = true then (5, 1) else (0, 1) := by
  have e1 : c.toNat = 61 ↔ c = 61 := u8_is 61 rfl
  have e2 : c.toNat = 33 ↔ c = 33 := u8_is 33 rfl
  have e3 : c.toNat = 60 ↔ c = 60 := u8_is 60 rfl
  rw [sgn_cons, pre_two, pre_two, pre_two]
  have e : (decide (c = 61 ∧ r.head? = some 61) || decide (c = 33 ∧ r.head? = some 61) || decide (c = 60 ∧ r.head? = some 61)) = true ↔ (c = 61 ∨ c = 33 ∨ c = 60) ∧ r.head? = some 61 := by
    simp only [Bool.or_eq_true, decide_eq_true_eq]
    constructor
    · rintro ((h | h) | h)
      · exact ⟨.inl h.1, h.2⟩
      · exact ⟨.inr (.inl h.1), h.2⟩
      · exact ⟨.inr (.inr h.1), h.2⟩
    · rintro ⟨h | h | h, h2⟩
      · exact .inl (.inl ⟨h, h2⟩)
      · exact .inl (.inr ⟨h, h2⟩)
      · exact .inr ⟨h, h2⟩
  simp only [e, e1, e2, e3]
theorem cls_is (c : UInt8) : (cls c == 8) = isS c ∧ (cls c == 4) = isL c ∧ (cls c == 5) = isD c ∧ (cls c == 7) = decide (c.toNat = 34) := by
  have := clsOk_all c
  unfold clsOk at this
  simp only [Bool.and_eq_true, beq_iff_eq] at this
  refine ⟨?_, ?_, ?_, ?_⟩
  · rw [← this.1.1.2, eqb]
  · rw [← this.1.1.1.2, eqb]
  · rw [← this.1.1.1.1.1.2, eqb]
  · rw [← this.2, eqb]
theorem ret_two {a b c d : Int} (h1 : a = c) (h2 : b = d) : Ending.returned (Value.tuple #[.int .i64 a, .int .i64 b]) = .returned (.tuple #[.int .i64 c, .int .i64 d]) := by rw [h1, h2]
set_option maxRecDepth 100000 in
set_option maxHeartbeats 2000000 in
theorem signShape_any (s : ByteArray) (h0 : 0 < s.size) (w : World) (T : Tabs w) :
    Calls Tryz.prog 142 #[.string s] w fun e w' => e = .returned (.tuple #[.int .i64 (sgn s.data.toList).1, .int .i64 ((sgn s.data.toList).2 : Nat)]) ∧ w' = w := by
  have H1 := Lib.hid (fun W => Tryz.strings_HasPrefix s ⟨#[61, 61]⟩ W)
  have H2 := Lib.hid (fun W => Tryz.strings_HasPrefix s ⟨#[33, 61]⟩ W)
  have H3 := Lib.hid (fun W => Tryz.strings_HasPrefix s ⟨#[60, 61]⟩ W)
  have e := at_drop s h0
  rw [List.drop_zero] at e
  have hg := sgn_parts s[0] (s.data.toList.drop (0 + 1))
  rw [← e] at hg
  rw [show (⟨#[61, 61]⟩ : ByteArray).data.toList = [61, 61] from rfl] at H1
  rw [show (⟨#[33, 61]⟩ : ByteArray).data.toList = [33, 61] from rfl] at H2
  rw [show (⟨#[60, 61]⟩ : ByteArray).data.toList = [60, 61] from rfl] at H3
  generalize Lib.hasPrefix s.data.toList [61, 61] = b1 at *
  generalize Lib.hasPrefix s.data.toList [33, 61] = b2 at *
  generalize Lib.hasPrefix s.data.toList [60, 61] = b3 at *
  have C := Lib.hid (classOf_any s[0] w T)
  have hS := (cls_is s[0]).1
  generalize isS s[0] = z at hS hg
  generalize cls s[0] = k at C hS
  generalize sgn s.data.toList = g at *
  clear T e
  cases b1
  · cases b2
    · cases b3
      · cases z
        · simp only [Bool.or_self, Bool.false_eq_true, if_false] at hg
          subst hg
          go_enter Tryz.func142, Tryz.ntmps142
          go_wp2_with fail
          refine (H1.out _).mono ?_
          rintro e w' ⟨rfl, rfl⟩
          go_wp2_with fail
          refine (H2.out _).mono ?_
          rintro e w' ⟨rfl, rfl⟩
          go_wp2_with fail
          refine (H3.out _).mono ?_
          rintro e w' ⟨rfl, rfl⟩
          go_wp2_with fail
          refine C.out.mono ?_
          rintro e w' ⟨rfl, rfl⟩
          go_wp2_with fail
          go_ret2
          exact ⟨rfl, rfl⟩
        · simp only [Bool.or_self, Bool.false_eq_true, if_false, if_true] at hg
          subst hg
          go_enter Tryz.func142, Tryz.ntmps142
          go_wp2_with fail
          refine (H1.out _).mono ?_
          rintro e w' ⟨rfl, rfl⟩
          go_wp2_with fail
          refine (H2.out _).mono ?_
          rintro e w' ⟨rfl, rfl⟩
          go_wp2_with fail
          refine (H3.out _).mono ?_
          rintro e w' ⟨rfl, rfl⟩
          go_wp2_with fail
          refine C.out.mono ?_
          rintro e w' ⟨rfl, rfl⟩
          go_wp2_with fail
          go_ret2
          exact ⟨rfl, rfl⟩
      · simp only [Bool.or_true, if_true] at hg
        subst hg
        go_enter Tryz.func142, Tryz.ntmps142
        go_wp2_with fail
        refine (H1.out _).mono ?_
        rintro e w' ⟨rfl, rfl⟩
        go_wp2_with fail
        refine (H2.out _).mono ?_
        rintro e w' ⟨rfl, rfl⟩
        go_wp2_with fail
        refine (H3.out _).mono ?_
        rintro e w' ⟨rfl, rfl⟩
        go_wp2_with fail
        go_ret2
        exact ⟨rfl, rfl⟩
    · simp only [Bool.or_true, Bool.true_or, if_true] at hg
      subst hg
      go_enter Tryz.func142, Tryz.ntmps142
      go_wp2_with fail
      refine (H1.out _).mono ?_
      rintro e w' ⟨rfl, rfl⟩
      go_wp2_with fail
      refine (H2.out _).mono ?_
      rintro e w' ⟨rfl, rfl⟩
      go_wp2_with fail
      go_ret2
      exact ⟨rfl, rfl⟩
  · simp only [Bool.true_or, if_true] at hg
    subst hg
    go_enter Tryz.func142, Tryz.ntmps142
    go_wp2_with fail
    refine (H1.out _).mono ?_
    rintro e w' ⟨rfl, rfl⟩
    go_wp2_with fail
    go_ret2
    exact ⟨rfl, rfl⟩
end Go.Proofs.YtbahfelnbofjjaaGreatDoor
namespace Go.Proofs.YtbahfelnbofjjaaGreatDoor
open Go.RowKit dec

theorem run0_any {st : Int} {p : UInt8 → Bool} (hst : Set st p) (s : ByteArray) (hs : s.size ≤ 140737488355328) (b : Nat) (w : World) (hb : w.cell? ⟨b, 0, none⟩ = some (.string s)) (T : Tabs w) :
    Calls Tryz.prog 196 #[.int .i64 0, .int .i64 st, .pointer (some ⟨b, 0, none⟩)] w fun e w' => e = .returned (.int .i64 (run p s.data.toList : Nat)) ∧ w' = w := by
  have := run_any hst s hs 0 (Nat.zero_le _) b w hb T
  rw [List.drop_zero, Nat.zero_add] at this
  exact this
theorem run1_any {st : Int} {p : UInt8 → Bool} (hst : Set st p) (s : ByteArray) (hs : s.size ≤ 140737488355328) (i : Nat) (hi : i + 1 ≤ s.size) (b : Nat) (w : World) (hb : w.cell? ⟨b, 0, none⟩ = some (.string s)) (T : Tabs w) :
    Calls Tryz.prog 196 #[.int .i64 ((i : Nat) + 1), .int .i64 st, .pointer (some ⟨b, 0, none⟩)] w fun e w' => e = .returned (.int .i64 ((i + 1 + run p (s.data.toList.drop (i + 1)) : Nat) : Int)) ∧ w' = w :=
  run_any hst s hs (i + 1) hi b w hb T
theorem shp_at (s : ByteArray) (h0 : 0 < s.size) : s.data.toList = s[0] :: s.data.toList.drop 1 := by
  have e := at_drop s h0
  rwa [List.drop_zero] at e
theorem shp_L (s : ByteArray) (h0 : 0 < s.size) (h : isL s[0] = true) : shp s.data.toList = (1, run isW s.data.toList) := by
  have e := shp_at s h0
  rw [e, shp_cons, if_pos h]
theorem not_LD {c : UInt8} (h : isL c = true) : isD c = false := by
  cases hd : isD c
  · rfl
  · exact absurd h (isL_D hd)
theorem shp_D (s : ByteArray) (h0 : 0 < s.size) (h : isD s[0] = true) : shp s.data.toList = if pnt (s.data.toList.drop (run isD s.data.toList)) = 0 then (2, run isD s.data.toList) else (3, run isD s.data.toList + 1 + pnt (s.data.toList.drop (run isD s.data.toList))) := by
  have e := shp_at s h0
  rw [e, shp_cons, if_neg (isL_D h), if_pos h]
theorem pnt_hit {l : List UInt8} (h : l.head? = some 46) : pnt l = run isD (l.drop 1) := by
  cases l with
  | nil => cases h
  | cons c r =>
    rw [List.head?_cons, Option.some.injEq] at h
    rw [pnt_cons, if_pos (by rw [h]; rfl)]
    rfl
theorem pnt_miss {l : List UInt8} (h : l.head? ≠ some 46) : pnt l = 0 := by
  cases l with
  | nil => rfl
  | cons c r =>
    rw [List.head?_cons, ne_eq, Option.some.injEq] at h
    rw [pnt_cons, if_neg (fun e => h (UInt8.toNat_inj.1 (e.trans rfl)))]
theorem head_drop (s : ByteArray) (n : Nat) : (s.data.toList.drop n).head? = if h : n < s.size then some s[n] else none := by
  by_cases h : n < s.size
  · rw [dif_pos h, at_drop s h]
    rfl
  · rw [dif_neg h, List.drop_eq_nil_of_le (by rw [str_len]; omega)]
    rfl
theorem shp_Q (s : ByteArray) (h0 : 0 < s.size) (h : s[0].toNat = 34) : shp s.data.toList = if (s.data.toList.drop (1 + run isQ (s.data.toList.drop 1))).head? = some 34 then (4, 1 + run isQ (s.data.toList.drop 1) + 1) else sgn s.data.toList := by
  have e := shp_at s h0
  have h1 : ¬ isL s[0] = true := by unfold isL; rw [h]; decide
  have h2 : ¬ isD s[0] = true := by unfold isD; rw [h]; decide
  generalize s.data.toList.drop 1 = r at e
  rw [e, shp_cons, if_neg h1, if_neg h2, Nat.add_comm 1 (run isQ r), List.drop_succ_cons]
  simp only [h, true_and]
theorem shp_S (s : ByteArray) (h0 : 0 < s.size) (h1 : isL s[0] = false) (h2 : isD s[0] = false) (h : s[0].toNat ≠ 34) : shp s.data.toList = sgn s.data.toList := by
  have e := shp_at s h0
  generalize s.data.toList.drop 1 = r at e
  rw [e, shp_cons, if_neg (by rw [h1]; decide), if_neg (by rw [h2]; decide), if_neg (by omega)]
theorem ret_shp {k : Int} {n : Nat} {q : Int × Nat} (h : q = (k, n)) : Ending.returned (Value.tuple #[.int .i64 k, .int .i64 (n : Nat)]) = .returned (.tuple #[.int .i64 q.1, .int .i64 (q.2 : Nat)]) := by rw [h]
set_option maxRecDepth 100000 in
set_option maxHeartbeats 4000000 in
theorem shape_any (s : ByteArray) (hs : s.size ≤ 140737488355328) (w : World) (T : Tabs w) :
    Calls Tryz.prog 85 #[.string s] w fun e w' => e = .returned (.tuple #[.int .i64 (shp s.data.toList).1, .int .i64 ((shp s.data.toList).2 : Nat)]) ∧ Below w.heap.size w w' := by
  by_cases h0 : 0 < s.size
  · have q1 : (s.toList == []) = false := by rw [toList_nil]; exact decide_eq_false (by omega)
    have RC := Lib.hid (runsOf_any s w)
    have T0 := Lib.hid T
    have C := Lib.hid (fun W T => classOf_any s[0] W T)
    have SG := Lib.hid (fun W T => signShape_any s h0 W T)
    obtain ⟨_, k4, k5, k7⟩ := cls_is s[0]
    have fL := Lib.hid (shp_L s h0)
    have fD := Lib.hid (shp_D s h0)
    have fQ := Lib.hid (shp_Q s h0)
    have fS := Lib.hid (shp_S s h0)
    obtain ⟨g, hg⟩ : ∃ g, shp s.data.toList = g := ⟨_, rfl⟩
    rw [hg] at fL fD fQ fS ⊢
    clear hg T
    cases hL : isL s[0]
    · cases hD : isD s[0]
      · by_cases h34 : s[0].toNat = 34
        · rw [hL] at k4
          rw [hD] at k5
          rw [decide_eq_true h34] at k7
          have hgQ := fQ.out h34
          have hnz := run_size isQ s (i := 1) h0
          obtain ⟨n, hn⟩ : ∃ n, 1 + run isQ (s.data.toList.drop 1) = n := ⟨_, rfl⟩
          have CQ := Lib.hid (fun W h T => (run_any set_Q s hs 1 h0 w.heap.size W h T : Calls Tryz.prog 196 #[.int .i64 1, .int .i64 (-133), .pointer (some ⟨w.heap.size, 0, none⟩)] W fun e w' => e = .returned (.int .i64 ((1 + run isQ (s.data.toList.drop 1) : Nat) : Int)) ∧ w' = W))
          rw [hn] at CQ hgQ hnz
          rw [head_drop] at hgQ
          generalize cls s[0] = k at C k4 k5 k7
          clear hL hD h34 fL fD fQ fS hn
          generalize sgn s.data.toList = q at *
          by_cases hc : n < s.size
          · rw [dif_pos hc] at hgQ
            have q2 : decide ((n : Int) < (s.size : Int)) = true := decide_eq_true (by omega)
            have C2 := Lib.hid (fun W T => classOf_any s[n] W T)
            have k77 := (cls_is s[n]).2.2.2
            generalize cls s[n] = kk at C2 k77
            by_cases h2 : s[n].toNat = 34
            · rw [if_pos (by rw [show s[n] = 34 from UInt8.toNat_inj.1 h2])] at hgQ
              rw [decide_eq_true h2] at k77
              replace hgQ := Lib.hid hgQ
              clear h2 SG
              go_enter Tryz.func85, Tryz.ntmps85
              go_wp2_with fail
              refine RC.out.mono ?_
              rintro e w1 ⟨rfl, c1, z1, b1⟩
              have B1 := Lib.hid b1
              have T1 := Lib.hid (T0.out.stays b1)
              clear b1 z1
              go_wp2_with fail
              refine (C.out _ T1.out).mono ?_
              rintro e w2 ⟨rfl, rfl⟩
              have CQ1 := Lib.hid (CQ.out w2 c1 T1.out)
              go_wp2_with fail
              refine CQ1.out.mono ?_
              rintro e w3 ⟨rfl, rfl⟩
              go_wp2_with fail
              refine (C2.out _ T1.out).mono ?_
              rintro e w3 ⟨rfl, rfl⟩
              go_wp2_with fail
              go_ret2
              exact ⟨by rw [hgQ.out]; rfl, B1.out⟩
            · rw [if_neg (by intro e; apply h2; rw [Option.some.inj e]; rfl)] at hgQ
              rw [decide_eq_false h2] at k77
              replace hgQ := Lib.hid hgQ
              clear h2
              go_enter Tryz.func85, Tryz.ntmps85
              go_wp2_with fail
              refine RC.out.mono ?_
              rintro e w1 ⟨rfl, c1, z1, b1⟩
              have B1 := Lib.hid b1
              have T1 := Lib.hid (T0.out.stays b1)
              clear b1 z1
              go_wp2_with fail
              refine (C.out _ T1.out).mono ?_
              rintro e w2 ⟨rfl, rfl⟩
              have CQ1 := Lib.hid (CQ.out w2 c1 T1.out)
              go_wp2_with fail
              refine CQ1.out.mono ?_
              rintro e w3 ⟨rfl, rfl⟩
              go_wp2_with fail
              refine (C2.out _ T1.out).mono ?_
              rintro e w3 ⟨rfl, rfl⟩
              go_wp2_with fail
              refine (SG.out _ T1.out).mono ?_
              rintro e w3 ⟨rfl, rfl⟩
              go_wp2_with fail
              go_ret2
              exact ⟨by rw [hgQ.out]; rfl, B1.out⟩
          · rw [dif_neg hc, if_neg (by intro e; cases e)] at hgQ
            have q2 : decide ((n : Int) < (s.size : Int)) = false := decide_eq_false (by omega)
            replace hgQ := Lib.hid hgQ
            go_enter Tryz.func85, Tryz.ntmps85
            go_wp2_with fail
            refine RC.out.mono ?_
            rintro e w1 ⟨rfl, c1, z1, b1⟩
            have B1 := Lib.hid b1
            have T1 := Lib.hid (T0.out.stays b1)
            clear b1 z1
            go_wp2_with fail
            refine (C.out _ T1.out).mono ?_
            rintro e w2 ⟨rfl, rfl⟩
            have CQ1 := Lib.hid (CQ.out w2 c1 T1.out)
            go_wp2_with fail
            refine CQ1.out.mono ?_
            rintro e w3 ⟨rfl, rfl⟩
            go_wp2_with fail
            refine (SG.out _ T1.out).mono ?_
            rintro e w3 ⟨rfl, rfl⟩
            go_wp2_with fail
            go_ret2
            exact ⟨by rw [hgQ.out]; rfl, B1.out⟩
        · rw [hL] at k4
          rw [hD] at k5
          rw [decide_eq_false h34] at k7
          have hgS := Lib.hid (fS.out hL hD h34)
          generalize cls s[0] = k at C k4 k5 k7
          clear hL hD h34 fL fD fQ fS
          generalize sgn s.data.toList = q at *
          go_enter Tryz.func85, Tryz.ntmps85
          go_wp2_with fail
          refine RC.out.mono ?_
          rintro e w1 ⟨rfl, c1, z1, b1⟩
          have B1 := Lib.hid b1
          have T1 := Lib.hid (T0.out.stays b1)
          clear b1 z1
          go_wp2_with fail
          refine (C.out _ T1.out).mono ?_
          rintro e w2 ⟨rfl, rfl⟩
          go_wp2_with fail
          refine (SG.out _ T1.out).mono ?_
          rintro e w2 ⟨rfl, rfl⟩
          go_wp2_with fail
          go_ret2
          exact ⟨by rw [hgS.out]; rfl, B1.out⟩
      · rw [hL] at k4
        rw [hD] at k5
        have hgD := fD.out hD
        have hnz := run_size isD s (i := 0) (Nat.zero_le _)
        rw [List.drop_zero, Nat.zero_add] at hnz
        have CD := Lib.hid (fun W h T => run0_any set_D s hs w.heap.size W h T)
        have CE := Lib.hid (fun i hi W h T => run1_any set_D s hs i hi w.heap.size W h T)
        obtain ⟨n, hn⟩ : ∃ n, run isD s.data.toList = n := ⟨_, rfl⟩
        rw [hn] at CD hgD hnz
        have HP := Lib.hid (fun W => Tryz.strings_HasPrefix (s.extract n s.size) ⟨#[46]⟩ W)
        rw [ext_tail, show (⟨#[46]⟩ : ByteArray).data.toList = [46] from rfl, pre_dot] at HP
        generalize cls s[0] = k at C k4 k5 k7
        clear hL hD fL fD fQ fS hn SG k7
        by_cases hh : (s.data.toList.drop n).head? = some 46
        · have hnl : n < s.size := by
            rcases Nat.lt_or_ge n s.size with h1 | h1
            · exact h1
            · rw [head_drop, dif_neg (by omega)] at hh
              cases hh
          have hmz := run_size isD s (i := n + 1) hnl
          rw [decide_eq_true hh] at HP
          rw [pnt_hit hh, List.drop_drop] at hgD
          have CE1 := Lib.hid (CE.out n hnl)
          generalize run isD (s.data.toList.drop (n + 1)) = m at *
          clear hh CE
          by_cases hm : m = 0
          · subst hm
            rw [if_pos rfl] at hgD
            replace hgD := Lib.hid hgD
            rw [Nat.add_zero] at CE1
            have q3 : decide (((n : Int) + 1) < ((n + 1 : Nat) : Int)) = false := decide_eq_false (by omega)
            go_enter Tryz.func85, Tryz.ntmps85
            go_wp2_with fail
            refine RC.out.mono ?_
            rintro e w1 ⟨rfl, c1, z1, b1⟩
            have B1 := Lib.hid b1
            have T1 := Lib.hid (T0.out.stays b1)
            clear b1 z1
            go_wp2_with fail
            refine (C.out _ T1.out).mono ?_
            rintro e w2 ⟨rfl, rfl⟩
            have CD1 := Lib.hid (CD.out w2 c1 T1.out)
            have CE2 := Lib.hid (CE1.out w2 c1 T1.out)
            go_wp2_with fail
            refine CD1.out.mono ?_
            rintro e w3 ⟨rfl, rfl⟩
            go_wp2_with fail
            refine (HP.out _).mono ?_
            rintro e w3 ⟨rfl, rfl⟩
            go_wp2_with fail
            refine CE2.out.mono ?_
            rintro e w3 ⟨rfl, rfl⟩
            go_wp2_with fail
            go_ret2
            exact ⟨by rw [hgD.out]; rfl, B1.out⟩
          · rw [if_neg hm] at hgD
            replace hgD := Lib.hid hgD
            have q3 : decide (((n : Int) + 1) < ((n + 1 + m : Nat) : Int)) = true := decide_eq_true (by omega)
            go_enter Tryz.func85, Tryz.ntmps85
            go_wp2_with fail
            refine RC.out.mono ?_
            rintro e w1 ⟨rfl, c1, z1, b1⟩
            have B1 := Lib.hid b1
            have T1 := Lib.hid (T0.out.stays b1)
            clear b1 z1
            go_wp2_with fail
            refine (C.out _ T1.out).mono ?_
            rintro e w2 ⟨rfl, rfl⟩
            have CD1 := Lib.hid (CD.out w2 c1 T1.out)
            have CE2 := Lib.hid (CE1.out w2 c1 T1.out)
            go_wp2_with fail
            refine CD1.out.mono ?_
            rintro e w3 ⟨rfl, rfl⟩
            go_wp2_with fail
            refine (HP.out _).mono ?_
            rintro e w3 ⟨rfl, rfl⟩
            go_wp2_with fail
            refine CE2.out.mono ?_
            rintro e w3 ⟨rfl, rfl⟩
            go_wp2_with fail
            refine CE2.out.mono ?_
            rintro e w3 ⟨rfl, rfl⟩
            go_wp2_with fail
            go_ret2
            exact ⟨by rw [hgD.out]; rfl, B1.out⟩
        · rw [decide_eq_false hh] at HP
          rw [pnt_miss hh, if_pos rfl] at hgD
          replace hgD := Lib.hid hgD
          clear hh CE
          go_enter Tryz.func85, Tryz.ntmps85
          go_wp2_with fail
          refine RC.out.mono ?_
          rintro e w1 ⟨rfl, c1, z1, b1⟩
          have B1 := Lib.hid b1
          have T1 := Lib.hid (T0.out.stays b1)
          clear b1 z1
          go_wp2_with fail
          refine (C.out _ T1.out).mono ?_
          rintro e w2 ⟨rfl, rfl⟩
          have CD1 := Lib.hid (CD.out w2 c1 T1.out)
          go_wp2_with fail
          refine CD1.out.mono ?_
          rintro e w3 ⟨rfl, rfl⟩
          go_wp2_with fail
          refine (HP.out _).mono ?_
          rintro e w3 ⟨rfl, rfl⟩
          go_wp2_with fail
          go_ret2
          exact ⟨by rw [hgD.out]; rfl, B1.out⟩
    · have hgL := Lib.hid (fL.out hL)
      rw [hL] at k4
      generalize cls s[0] = k at C k4 k5 k7
      clear hL fL fD fQ fS k5 k7 SG
      go_enter Tryz.func85, Tryz.ntmps85
      go_wp2_with fail
      refine RC.out.mono ?_
      rintro e w1 ⟨rfl, c1, z1, b1⟩
      have B1 := Lib.hid b1
      have T1 := Lib.hid (T0.out.stays b1)
      have CW := Lib.hid (run0_any set_W s hs w.heap.size w1 c1 T1.out)
      clear b1 z1
      generalize run isW s.data.toList = n at *
      go_wp2_with fail
      refine (C.out _ T1.out).mono ?_
      rintro e w2 ⟨rfl, rfl⟩
      go_wp2_with fail
      refine CW.out.mono ?_
      rintro e w2 ⟨rfl, rfl⟩
      go_wp2_with fail
      go_ret2
      exact ⟨by rw [hgL.out]; rfl, B1.out⟩
  · have q1 : (s.toList == []) = true := by rw [toList_nil]; exact decide_eq_true (by omega)
    have hn : s.data.toList = [] := List.eq_nil_of_length_eq_zero (by rw [str_len]; omega)
    have hg := Lib.hid (show shp s.data.toList = (0, 0) by rw [hn]; rfl)
    clear T hn hs
    go_enter Tryz.func85, Tryz.ntmps85
    go_wp2_with fail
    go_ret2
    exact ⟨by rw [hg.out]; rfl, b0 w⟩
end Go.Proofs.YtbahfelnbofjjaaGreatDoor
namespace Go.Proofs.YtbahfelnbofjjaaGreatDoor
open Go.RowKit dec

theorem emp (s : ByteArray) : s.toList.isEmpty = decide (s.size = 0) := by
  rw [ByteArray.toList_eq, Lib.size_eq s]
  cases s.data.toList <;> simp
theorem isFormed_any (k n : Int) (s : ByteArray) (w : World) : Calls Tryz.prog 204 #[.agg #[.int .i64 k, .int .i64 n, .string s]] w fun e w' => e = .returned (.bool (fmd ⟨k, n, s⟩)) ∧ Below w.heap.size w w' := by
  go_enter Tryz.func204, Tryz.ntmps204
  go_wp2
  all_goals go_ret
  all_goals refine ⟨congrArg (fun b => Ending.returned (Value.bool b)) ?_, balloc (b0 w) _⟩
  all_goals simp_all [fmd, emp]
  all_goals rfl
theorem isLimited_any (k n : Int) (s : ByteArray) (w : World) : Calls Tryz.prog 205 #[.agg #[.int .i64 k, .int .i64 n, .string s]] w fun e w' => e = .returned (.bool (lmt ⟨k, n, s⟩)) ∧ Below w.heap.size w w' := by
  go_enter Tryz.func205, Tryz.ntmps205
  go_wp2
  all_goals go_ret
  all_goals refine ⟨congrArg (fun b => Ending.returned (Value.bool b)) ?_, balloc (b0 w) _⟩
  all_goals simp_all [lmt, rg]
  all_goals omega
/-- The loop over the bytes: what is left says the same. -/
theorem pB_drop (lo : Nat) (l : List UInt8) {i : Nat} (hi : i < l.length) : pB lo (l.drop i) = (okB lo l[i] && pB lo (l.drop (i + 1))) := by
  rw [List.drop_eq_getElem_cons hi]
  rfl
theorem okB_no (lo : Nat) (c : UInt8) : okB lo c = false ↔ (c.toNat < lo ∨ 126 < c.toNat) ∨ c.toNat = 34 ∨ c.toNat = 92 := by
  unfold okB
  simp only [Bool.and_eq_false_iff, Bool.not_eq_false', decide_eq_false_iff_not, decide_eq_true_eq]
  omega
theorem okB_yes (lo : Nat) (c : UInt8) : okB lo c = true ↔ (lo ≤ c.toNat ∧ c.toNat ≤ 126) ∧ c.toNat ≠ 34 ∧ c.toNat ≠ 92 := by
  unfold okB
  simp only [Bool.and_eq_true, Bool.not_eq_true', decide_eq_false_iff_not, decide_eq_true_eq]
  omega
theorem pB_step (lo : Nat) (s : ByteArray) {i : Nat} (hi : i < s.size) : (okB lo s[i] = false → pB lo (s.data.toList.drop i) = false) ∧ (okB lo s[i] = true → pB lo (s.data.toList.drop i) = pB lo (s.data.toList.drop (i + 1))) := by
  have hi' : i < s.data.toList.length := by rw [← Lib.size_eq]; exact hi
  have e : s.data.toList[i] = s[i] := rfl
  rw [pB_drop lo _ hi', e]
  constructor
  · intro h; rw [h]; rfl
  · intro h; rw [h]; rfl
theorem pB_end (lo : Nat) (s : ByteArray) {i : Nat} (hi : ¬ i < s.size) : pB lo (s.data.toList.drop i) = true := by
  rw [List.drop_eq_nil_of_le (by rw [← Lib.size_eq]; omega)]
  rfl
theorem consists_any (lo : Nat) (s : ByteArray) (hs : s.size ≤ 9223372036854775806) (w : World) : Calls Tryz.prog 259 #[.int .u8 (lo : Nat), .string s] w fun e w' => e = .returned (.bool (pB lo s.data.toList)) ∧ w = w' := by
  go_enter Tryz.func259, Tryz.ntmps259
  go_wp2
  go_loopw [9] (fun x wr => ∃ i : Nat, x = .int .i64 (i : Nat) ∧ i ≤ s.size ∧ Hid (pB lo s.data.toList = pB lo (s.data.toList.drop i)) ∧ wr = w) (fun x _ => s.size - (intOf x).toNat)
  case atStart => exact ⟨0, rfl, by omega, rfl, rfl⟩
  case round =>
    obtain ⟨i, rfl, hi, hp, rfl⟩ := hrel
    go_wp2
    case roundEnd =>
      have h1 : i < s.size := by omega
      rename_i h2
      simp only [beq_eq_false_iff_ne] at h2
      refine ⟨⟨i + 1, rfl, by omega, ?_, trivial⟩, ?_⟩
      · exact Lib.hid (hp.out.trans ((pB_step lo s h1).2 ((okB_yes lo s[i]).2 (by omega))))
      · show s.size - ((i : Int) + 1).toNat < s.size - ((i : Nat) : Int).toNat
        omega
    all_goals go_ret
    all_goals refine ⟨congrArg (fun b => Ending.returned (Value.bool b)) (Eq.symm ?_), rfl⟩
    all_goals rw [hp.out]
    all_goals first
      | exact pB_end lo s (by omega)
      | exact (pB_step lo s (by omega)).1 ((okB_no lo _).2 (by omega))
      | (rename_i h2; simp only [beq_iff_eq] at h2; exact (pB_step lo s (by omega)).1 ((okB_no lo _).2 (by omega)))
/-- A value in memory: the block b holds it. -/
def Vx (w : World) (b : Nat) (k n : Int) (s : ByteArray) : Prop := w.cell? ⟨b, 0, none⟩ = some (.int .i64 k) ∧ w.cell? ⟨b, 1, none⟩ = some (.int .i64 n) ∧ w.cell? ⟨b, 2, none⟩ = some (.string s)
theorem Vx.new (w : World) (k n : Int) (s : ByteArray) (T : TypeId) : Vx (w.alloc (.cells #[.int .i64 k, .int .i64 n, .string s] T)) w.heap.size k n s := ⟨by simp [go_sem], by simp [go_sem], by simp [go_sem]⟩
theorem Vx.keeps {w w1 : World} {b : Nat} {k n : Int} {s : ByteArray} (h : Vx w b k n s) (hb : Below w.heap.size w w1) : Vx w1 b k n s := ⟨dec.keeps hb h.1, dec.keeps hb h.2.1, dec.keeps hb h.2.2⟩
theorem Vx.past {w : World} {b : Nat} {k n : Int} {s : ByteArray} (h : Vx w b k n s) (o : Obj) : Vx (w.alloc o) b k n s := h.keeps (balloc (b0 w) o)

theorem isSpelled_any (k n : Int) (s : ByteArray) (hs : s.size ≤ 140737488355328) (w : World) : Calls Tryz.prog 206 #[.agg #[.int .i64 k, .int .i64 n, .string s]] w fun e w' => e = .returned (.bool (spl ⟨k, n, s⟩)) ∧ Below w.heap.size w w' := by
  have C1 : Hid (∀ w, Calls Tryz.prog 259 #[.int .u8 32, .string s] w fun e w' => e = .returned (.bool (pB 32 s.data.toList)) ∧ w = w') := Lib.hid (fun w => consists_any 32 s (by omega) w)
  have C2 : Hid (∀ w, Calls Tryz.prog 259 #[.int .u8 33, .string s] w fun e w' => e = .returned (.bool (pB 33 s.data.toList)) ∧ w = w') := Lib.hid (fun w => consists_any 33 s (by omega) w)
  by_cases k4 : k = 4
  · subst k4
    clear C2
    go_enter Tryz.func206, Tryz.ntmps206
    go_wp2_with fail
    refine (C1.out _).mono ?_
    rintro e w' ⟨rfl, rfl⟩
    go_wp2
    go_ret
    refine ⟨congrArg (fun b => Ending.returned (Value.bool b)) ?_, balloc (b0 _) _⟩
    simp [spl]
  by_cases k5 : k = 5
  · subst k5
    clear C1
    by_cases hz : s.size = 0
    · have hz2 := size_zero hz
      subst hz2
      go_enter Tryz.func206, Tryz.ntmps206
      go_wp2_with fail
      go_ret
      refine ⟨congrArg (fun b => Ending.returned (Value.bool b)) ?_, balloc (b0 _) _⟩
      simp [spl]
    · have he : s.toList.isEmpty = false := by rw [emp]; exact decide_eq_false hz
      go_enter Tryz.func206, Tryz.ntmps206
      go_wp2_with fail
      refine (C2.out _).mono ?_
      rintro e w' ⟨rfl, rfl⟩
      go_wp2
      go_ret
      refine ⟨congrArg (fun b => Ending.returned (Value.bool b)) ?_, balloc (b0 _) _⟩
      simp_all [spl]
  clear C1 C2
  go_enter Tryz.func206, Tryz.ntmps206
  go_wp2_with fail
  go_ret
  refine ⟨congrArg (fun b => Ending.returned (Value.bool b)) ?_, balloc (b0 _) _⟩
  simp_all [spl]
theorem check_any (k n : Int) (s : ByteArray) (hs : s.size ≤ 140737488355328) (w : World) : Calls Tryz.prog 145 #[.agg #[.int .i64 k, .int .i64 n, .string s]] w fun e w' => e = .returned (.int .i64 (ck ⟨k, n, s⟩)) ∧ Below w.heap.size w w' := by
  have C1 := Lib.hid (isFormed_any k n s)
  have C2 := Lib.hid (isLimited_any k n s)
  have C3 := Lib.hid (isSpelled_any k n s hs)
  have V0 := Vx.new w k n s 23
  unfold ck
  generalize fmd ⟨k, n, s⟩ = f at *
  generalize lmt ⟨k, n, s⟩ = l at *
  generalize spl ⟨k, n, s⟩ = p at *
  go_enter Tryz.func145, Tryz.ntmps145
  go_wp2_with fail
  refine (C1.out _).mono ?_
  rintro e w1 ⟨rfl, b1⟩
  obtain ⟨c0, c1, c2⟩ := V0.keeps b1
  have V1 := Lib.hid (V0.keeps b1)
  replace b1 := (balloc (b0 w) _).trans (b1.mono (by simp))
  cases f
  · go_wp2_with fail
    go_ret
    exact ⟨rfl, b1⟩
  go_wp2_with fail
  refine (C2.out _).mono ?_
  rintro e w2 ⟨rfl, b2⟩
  obtain ⟨c0, c1, c2⟩ := V1.out.keeps b2
  have V2 := Lib.hid (V1.out.keeps b2)
  replace b2 := bnext b1 b2
  cases l
  · go_wp2_with fail
    go_ret
    exact ⟨rfl, b2⟩
  go_wp2_with fail
  refine (C3.out _).mono ?_
  rintro e w3 ⟨rfl, b3⟩
  replace b3 := bnext b2 b3
  cases p
  · go_wp2_with fail
    go_ret
    exact ⟨rfl, b3⟩
  · go_wp2_with fail
    go_ret
    exact ⟨rfl, b3⟩
end Go.Proofs.YtbahfelnbofjjaaGreatDoor
namespace Go.Proofs.YtbahfelnbofjjaaGreatDoor
open Go.RowKit dec

theorem ba_ext {a b : ByteArray} (h : a.data.toList = b.data.toList) : a = b := by
  cases a; cases b
  simp only at h
  rw [Array.toList_inj.1 h]
theorem ba_of {b : ByteArray} {l : List UInt8} (h : b.data.toList = l) : b = ⟨l.toArray⟩ := ba_ext h
theorem ret_str {a b : ByteArray} (h : a = b) : Ending.returned (Value.string a) = .returned (.string b) := by rw [h]
theorem ret_int {k : IntKind} {a b : Int} (h : a = b) : Ending.returned (Value.int k a) = .returned (.int k b) := by rw [h]
theorem ret_bool {a b : Bool} (h : a = b) : Ending.returned (Value.bool a) = .returned (.bool b) := by rw [h]
theorem slice_ij (s : ByteArray) {i j : Nat} {x y : Int} (hx : x = (i : Nat)) (hy : y = (j : Nat)) (hij : i ≤ j) (hj : j ≤ s.size) (W : World) : (Instr.slice 9 (.string s) (some (.int .i64 x)) (some (.int .i64 y)) none).run Tryz.prog W = .ok (.string (s.extract i j)) W := by
  subst hx hy
  exact Go.run_slice_string W 9 s .i64 .i64 i j Tryz.underlying9 (by omega) (by omega) (by omega)
set_option maxRecDepth 100000 in
theorem content_any (k : Int) (s : ByteArray) (hs : s.size ≤ 140737488355328) (h : k = 4 → 2 ≤ s.size) (w : World) :
    Calls Tryz.prog 87 #[.int .i64 k, .string s] w fun e w' => e = .returned (.string ⟨(cont k s.data.toList).toArray⟩) ∧ w' = w := by
  by_cases hk : k = 4
  · have h2 := h hk
    have q1 : (k == 4) = true := by rw [hk]; rfl
    have he := Lib.hid (show s.extract 1 (s.size - 1) = ⟨(cont k s.data.toList).toArray⟩ by
      refine ba_of ?_
      rw [ext_data]
      unfold cont
      rw [if_pos hk, str_len, show s.size - 1 - 1 = s.size - 2 by omega])
    clear h hk
    have SL := fun W => slice_ij s (i := 1) (j := s.size - 1) (x := 1) (y := (s.size : Int) - 1) rfl (by omega) (by omega) (by omega) W
    rw [he.out] at SL
    generalize (⟨(cont k s.data.toList).toArray⟩ : ByteArray) = R at *
    clear he
    go_enter Tryz.func87, Tryz.ntmps87
    go_wp2_with fail
    go_ret
    exact ⟨rfl, rfl⟩
  · have q1 : (k == 4) = false := by rw [beq_eq_false_iff_ne]; exact hk
    have he := Lib.hid (show s = ⟨(cont k s.data.toList).toArray⟩ from ba_of (cont_other hk _).symm)
    clear h hk hs
    go_enter Tryz.func87, Tryz.ntmps87
    go_wp2_with fail
    go_ret
    exact ⟨ret_str he.out, rfl⟩
theorem ck_text (s : ByteArray) : ck ⟨4, 0, s⟩ = txE s.data.toList := by
  unfold ck txE fmd lmt spl
  rw [str_len]
  by_cases h : 64 < s.size
  · rw [if_pos h]
    simp [show ¬ s.size ≤ 64 by omega]
  · rw [if_neg h]
    simp [show s.size ≤ 64 by omega]
theorem flt_else {k : Int} (h1 : k ≠ 1) (h2 : k ≠ 2) (h3 : k ≠ 3) (h4 : k ≠ 4) (h0 : k ≠ 0) (p : List UInt8) : flt k p = 0 := by
  unfold flt
  rw [if_neg h1, if_neg h2, if_neg h3, if_neg h4, if_neg h0]
theorem text_two {l : List UInt8} (h : shp l = (4, l.length)) : 2 ≤ l.length := by
  have h1 := shp_text (l := l) (by rw [h])
  rw [h, List.take_length] at h1
  have := congrArg List.length h1
  simp only [List.length_cons, List.length_append, List.length_nil] at this
  omega
set_option maxRecDepth 100000 in
set_option maxHeartbeats 2000000 in
theorem fault_any (k : Int) (s : ByteArray) (hs : s.size ≤ 1048576) (h : k = 0 ∨ shp s.data.toList = (k, s.data.toList.length)) (w : World) (T : Tabs w) :
    Calls Tryz.prog 86 #[.int .i64 k, .string s] w fun e w' => e = .returned (.int .i64 (flt k s.data.toList)) ∧ Below w.heap.size w w' := by
  by_cases h1 : k = 1
  · subst h1
    have hf := Lib.hid (flt_one s.data.toList)
    rw [str_len] at hf
    clear h T
    by_cases hc : 24 < s.size
    · have q : decide (24 < (s.size : Int)) = true := decide_eq_true (by omega)
      rw [if_pos hc] at hf
      go_enter Tryz.func86, Tryz.ntmps86
      go_wp2_with fail
      go_ret
      exact ⟨ret_int hf.out.symm, b0 w⟩
    · have q : decide (24 < (s.size : Int)) = false := decide_eq_false (by omega)
      rw [if_neg hc] at hf
      go_enter Tryz.func86, Tryz.ntmps86
      go_wp2_with fail
      go_ret
      exact ⟨ret_int hf.out.symm, b0 w⟩
  by_cases h2 : k = 2
  · subst h2
    obtain ⟨d1, d2⟩ := shp_int (h.resolve_left (by decide))
    have hat := atoi_digits d1 d2
    have hf := flt_two s.data.toList
    clear h h1 d1 d2
    generalize dval 0 s.data.toList = v at *
    by_cases hv : v < 9223372036854775808
    · rw [if_pos hv] at hat
      have AC := Lib.hid (Tryz.strconv_Atoi_ok s (by omega) _ hat w)
      by_cases hc : 1152921504606846976 < v
      · rw [if_pos hc] at hf
        replace hf := Lib.hid hf
        have q : decide (1152921504606846976 < (v : Int)) = true := decide_eq_true (by omega)
        clear hat T
        go_enter Tryz.func86, Tryz.ntmps86
        go_wp2_with fail
        refine AC.out.mono ?_
        rintro e w1 ⟨rfl, hw⟩
        have B1 := Lib.hid (show Below w.heap.size w w1 by rcases hw with rfl | ⟨t, rfl⟩; exact b0 _; exact below_bytes _ _ _)
        clear hw
        go_wp2_with fail
        go_ret
        exact ⟨ret_int hf.out.symm, B1.out⟩
      · rw [if_neg hc] at hf
        replace hf := Lib.hid hf
        have q : decide (1152921504606846976 < (v : Int)) = false := decide_eq_false (by omega)
        clear hat T
        go_enter Tryz.func86, Tryz.ntmps86
        go_wp2_with fail
        refine AC.out.mono ?_
        rintro e w1 ⟨rfl, hw⟩
        have B1 := Lib.hid (show Below w.heap.size w w1 by rcases hw with rfl | ⟨t, rfl⟩; exact b0 _; exact below_bytes _ _ _)
        clear hw
        go_wp2_with fail
        go_ret
        exact ⟨ret_int hf.out.symm, B1.out⟩
    · rw [if_neg hv] at hat
      rw [if_pos (by omega)] at hf
      replace hf := Lib.hid hf
      obtain ⟨tp, p, hr⟩ := T.ran
      have AC := Lib.hid (Tryz.strconv_Atoi_range_var s (by omega) hat tp p w hr)
      clear hat T hr
      go_enter Tryz.func86, Tryz.ntmps86
      go_wp2_with fail
      refine AC.out.mono ?_
      rintro e w1 ⟨N, rfl, hw⟩
      have B1 := Lib.hid hw.2.2
      clear hw
      go_wp2_with fail
      go_ret
      exact ⟨ret_int hf.out.symm, B1.out⟩
  by_cases h3 : k = 3
  · subst h3
    have PC := Lib.hid (parse_any s w (by omega) T.pow)
    have hf := flt_three s.data.toList
    clear h T h1 h2
    generalize paE s.data.toList = x at *
    generalize paX s.data.toList = y at *
    replace hf := Lib.hid hf
    go_enter Tryz.func86, Tryz.ntmps86
    go_wp2_with fail
    refine PC.out.mono ?_
    rintro e w1 ⟨rfl, b1⟩
    have B1 := Lib.hid b1
    clear b1
    go_wp2_with fail
    go_ret
    exact ⟨ret_int hf.out.symm, B1.out⟩
  by_cases h4 : k = 4
  · subst h4
    have h22 := text_two (h.resolve_left (by decide))
    rw [str_len] at h22
    have CC := Lib.hid (content_any 4 s (by omega) (fun _ => h22) w)
    have hl : (cont 4 s.data.toList).length ≤ 1048576 := by
      unfold cont
      rw [if_pos rfl, List.length_take, List.length_drop, str_len]
      omega
    have hf := flt_four s.data.toList
    obtain ⟨t, ht⟩ : ∃ t : ByteArray, t = ⟨(cont 4 s.data.toList).toArray⟩ := ⟨_, rfl⟩
    have htl : t.data.toList = cont 4 s.data.toList := by rw [ht]
    rw [← ht] at CC
    rw [← htl] at hf hl
    rw [str_len] at hl
    have KC := Lib.hid (fun W => check_any 4 0 t (by omega) W)
    rw [ck_text, ← hf] at KC
    clear h T h1 h2 h3 ht htl hf h22 hl
    generalize flt 4 s.data.toList = x at *
    go_enter Tryz.func86, Tryz.ntmps86
    go_wp2_with fail
    refine CC.out.mono ?_
    rintro e w1 ⟨rfl, rfl⟩
    go_wp2_with fail
    refine (KC.out _).mono ?_
    rintro e w1 ⟨rfl, b1⟩
    have B1 := Lib.hid b1
    clear b1
    go_wp2_with fail
    go_ret
    exact ⟨rfl, B1.out⟩
  have q1 : (k == 1) = false := by rw [beq_eq_false_iff_ne]; exact h1
  have q2 : (k == 2) = false := by rw [beq_eq_false_iff_ne]; exact h2
  have q3 : (k == 3) = false := by rw [beq_eq_false_iff_ne]; exact h3
  have q4 : (k == 4) = false := by rw [beq_eq_false_iff_ne]; exact h4
  by_cases h0 : k = 0
  · subst h0
    have hf := Lib.hid (flt_zero s.data.toList)
    clear h T h1 h2 h3 h4 q1 q2 q3 q4
    go_enter Tryz.func86, Tryz.ntmps86
    go_wp2_with fail
    go_ret
    exact ⟨ret_int hf.out.symm, b0 w⟩
  · have q0 : (k == 0) = false := by rw [beq_eq_false_iff_ne]; exact h0
    have hf := Lib.hid (flt_else h1 h2 h3 h4 h0 s.data.toList)
    clear h T h1 h2 h3 h4 h0
    go_enter Tryz.func86, Tryz.ntmps86
    go_wp2_with fail
    go_ret
    exact ⟨ret_int hf.out.symm, b0 w⟩
end Go.Proofs.YtbahfelnbofjjaaGreatDoor
namespace Go.Proofs.YtbahfelnbofjjaaGreatDoor
open Go.RowKit dec

/-- Is s exactly one token of this kind? -/
def prB (k : Int) (s : ByteArray) : Bool := decide (shp s.data.toList = (k, s.size)) && decide (flt k s.data.toList = 0)
theorem prB_pr (x : Tk) {s : ByteArray} (h : s.data.toList = so x) : prB x.k s = pr x := by
  unfold prB pr
  rw [h, ← h, str_len]
set_option maxRecDepth 100000 in
set_option maxHeartbeats 1000000 in
theorem isToken_any (k : Int) (s : ByteArray) (hs : s.size ≤ 1048576) (w : World) (T : Tabs w) :
    Calls Tryz.prog 91 #[.int .i64 k, .string s] w fun e w' => e = .returned (.bool (prB k s)) ∧ Below w.heap.size w w' := by
  have SC := Lib.hid (shape_any s (by omega) w T)
  have T0 := Lib.hid T
  clear T
  obtain ⟨q, hq⟩ : ∃ q, shp s.data.toList = q := ⟨_, rfl⟩
  obtain ⟨k1, n⟩ := q
  rw [hq] at SC
  by_cases h1 : k1 = k
  · subst h1
    have q1 : (k1 == k1) = true := by rw [beq_iff_eq]
    by_cases h2 : n = s.size
    · subst h2
      have q2 : ((s.size : Int) == (s.size : Int)) = true := by rw [beq_iff_eq]
      have FC := Lib.hid (fun W T => fault_any k1 s hs (.inr (by rw [hq, str_len])) W T)
      have hp := Lib.hid (show prB k1 s = (flt k1 s.data.toList == 0) by unfold prB; rw [decide_eq_true hq, Bool.true_and, eqb])
      clear hq hs
      generalize flt k1 s.data.toList = f at *
      go_enter Tryz.func91, Tryz.ntmps91
      go_wp2_with fail
      refine SC.out.mono ?_
      rintro e w1 ⟨rfl, b1⟩
      have B1 := Lib.hid b1
      have T1 := Lib.hid (T0.out.stays b1)
      clear b1
      go_wp2_with fail
      refine (FC.out _ T1.out).mono ?_
      rintro e w2 ⟨rfl, b2⟩
      have B2 := Lib.hid (bnext B1.out b2)
      clear b2
      generalize hf : (f == 0) = b at *
      cases b
      · go_wp2_with fail
        go_ret
        exact ⟨ret_bool hp.out.symm, B2.out⟩
      · go_wp2_with fail
        go_ret
        exact ⟨ret_bool hp.out.symm, B2.out⟩
    · have q2 : ((n : Int) == (s.size : Int)) = false := by rw [beq_eq_false_iff_ne]; omega
      have hp := Lib.hid (show prB k1 s = false by unfold prB; rw [decide_eq_false (by rw [hq]; intro e; exact h2 (Prod.mk.inj e).2), Bool.false_and])
      clear hq hs T0 h2
      go_enter Tryz.func91, Tryz.ntmps91
      go_wp2_with fail
      refine SC.out.mono ?_
      rintro e w1 ⟨rfl, b1⟩
      have B1 := Lib.hid b1
      clear b1
      go_wp2_with fail
      go_ret
      exact ⟨ret_bool hp.out.symm, B1.out⟩
  · have q1 : (k1 == k) = false := by rw [beq_eq_false_iff_ne]; exact h1
    have hp := Lib.hid (show prB k s = false by unfold prB; rw [decide_eq_false (by rw [hq]; intro e; exact h1 (Prod.mk.inj e).1), Bool.false_and])
    clear hq hs T0 h1
    go_enter Tryz.func91, Tryz.ntmps91
    go_wp2_with fail
    refine SC.out.mono ?_
    rintro e w1 ⟨rfl, b1⟩
    have B1 := Lib.hid b1
    clear b1
    go_wp2_with fail
    go_ret
    exact ⟨ret_bool hp.out.symm, B1.out⟩
theorem add_str (x y : List UInt8) (hx : x.length ≤ 1048576) (hy : y.length ≤ 1048576) (W : World) : (Op.stringOp .add ⟨x.toArray⟩ ⟨y.toArray⟩).run Tryz.prog W = .ok (.string ⟨(x ++ y).toArray⟩) W := run_string_add_lists W x y (by omega) (by omega)
set_option maxRecDepth 100000 in
theorem source_any (x : Tk) (hs : x.t.size ≤ 1000000) (w : World) :
    Calls Tryz.prog 90 #[.agg #[.int .i64 x.k, .string x.t, .int .i64 x.a]] w fun e w' => e = .returned (.string ⟨(so x).toArray⟩) ∧ Below w.heap.size w w' := by
  have A := add_str [34] x.t.data.toList (by decide) (by rw [str_len]; omega)
  replace A : ∀ W, (Op.stringOp .add ⟨#[34]⟩ x.t).run Tryz.prog W = .ok (.string ⟨(34 :: x.t.data.toList).toArray⟩) W := A
  have B := add_str (34 :: x.t.data.toList) [34] (by rw [List.length_cons, str_len]; omega) (by decide)
  replace B : ∀ W, (Op.stringOp .add ⟨(34 :: x.t.data.toList).toArray⟩ ⟨#[34]⟩).run Tryz.prog W = .ok (.string ⟨(34 :: (x.t.data.toList ++ [34])).toArray⟩) W := B
  have hb := Lib.hid (balloc (b0 w) (.cells #[.int .i64 x.k, .string x.t, .int .i64 x.a] 119))
  by_cases h : x.k = 4
  · have q1 : (x.k == 4) = true := by rw [h]; rfl
    have hso := Lib.hid (show so x = 34 :: (x.t.data.toList ++ [34]) by unfold so; rw [if_pos h])
    clear hs h
    obtain ⟨k, t, a⟩ := x
    simp only at *
    generalize 34 :: (t.data.toList ++ [34]) = m at *
    generalize 34 :: t.data.toList = l at *
    go_enter Tryz.func90, Tryz.ntmps90
    go_wp2_with fail
    go_ret
    exact ⟨by rw [hso.out]; rfl, hb.out⟩
  · have q1 : (x.k == 4) = false := by rw [beq_eq_false_iff_ne]; exact h
    have hso := Lib.hid (show so x = x.t.data.toList by unfold so; rw [if_neg h])
    clear hs h A B
    obtain ⟨k, t, a⟩ := x
    simp only at *
    go_enter Tryz.func90, Tryz.ntmps90
    go_wp2_with fail
    go_ret
    exact ⟨by rw [hso.out]; rfl, hb.out⟩
end Go.Proofs.YtbahfelnbofjjaaGreatDoor
namespace Go.Proofs.YtbahfelnbofjjaaGreatDoor
open Go.RowKit dec

/-- The keywords. -/
def kwL : List (List UInt8) := [[116, 97, 98, 108, 101], [102, 101, 97, 116, 117, 114, 101], [111, 102], [107, 101, 101, 112], [98, 111, 111, 108], [116, 101, 120, 116], [107, 101, 121], [105, 110, 116], [100, 101, 99], [105, 102], [116, 104, 101, 110], [101, 108, 115, 101], [100, 101, 102, 97, 117, 108, 116], [111, 114], [97, 110, 100], [110, 111, 116], [116, 114, 117, 101], [102, 97, 108, 115, 101], [110, 117, 108, 108], [99, 111, 117, 110, 116], [115, 117, 109], [109, 101, 97, 110], [109, 105, 110], [109, 97, 120], [102, 105, 114, 115, 116], [108, 97, 115, 116], [100, 105, 115, 116, 105, 110, 99, 116], [113, 117, 97, 110, 116, 105, 108, 101], [100, 101, 99, 97, 121], [97, 108, 108], [115, 108, 105, 100, 105, 110, 103], [116, 117, 109, 98, 108, 105, 110, 103], [115, 101, 115, 115, 105, 111, 110], [119, 104, 101, 114, 101]]
def kw (s : ByteArray) : Bool := kwL.any fun l => s.toList == l
set_option maxRecDepth 100000 in
set_option maxHeartbeats 4000000 in
theorem keyword_any (s : ByteArray) (w : World) :
    Calls Tryz.prog 99 #[.string s] w fun e w' => e = .returned (.bool (kw s)) ∧ w' = w := by
  go_enter Tryz.func99, Tryz.ntmps99
  go_wp2
  all_goals go_ret
  all_goals refine ⟨ret_bool ?_, rfl⟩
  all_goals first | (rename_i h1 h2; rw [h1] at h2; cases h2; done) | (unfold kw kwL; simp [*]; done)
def name (s : ByteArray) : Bool := prB 1 s && !kw s
set_option maxRecDepth 100000 in
theorem name_any (s : ByteArray) (hs : s.size ≤ 1048576) (w : World) (T : Tabs w) :
    Calls Tryz.prog 43 #[.string s] w fun e w' => e = .returned (.bool (name s)) ∧ Below w.heap.size w w' := by
  have IC := Lib.hid (isToken_any 1 s hs w T)
  have KC := Lib.hid (fun W => keyword_any s W)
  have hn : Hid (name s = (prB 1 s && !kw s)) := Lib.hid rfl
  generalize prB 1 s = p at *
  generalize kw s = q at *
  clear T
  cases p
  · go_enter Tryz.func43, Tryz.ntmps43
    go_wp2_with fail
    refine IC.out.mono ?_
    rintro e w1 ⟨rfl, b1⟩
    have B1 := Lib.hid b1
    clear b1
    go_wp2_with fail
    go_ret
    exact ⟨ret_bool hn.out.symm, B1.out⟩
  · go_enter Tryz.func43, Tryz.ntmps43
    go_wp2_with fail
    refine IC.out.mono ?_
    rintro e w1 ⟨rfl, b1⟩
    have B1 := Lib.hid b1
    clear b1
    go_wp2_with fail
    refine (KC.out _).mono ?_
    rintro e w2 ⟨rfl, rfl⟩
    go_wp2_with fail
    go_ret
    exact ⟨ret_bool hn.out.symm, B1.out⟩
end Go.Proofs.YtbahfelnbofjjaaGreatDoor
namespace Go.Proofs.YtbahfelnbofjjaaGreatDoor
open Go.RowKit dec

set_option maxRecDepth 100000 in
set_option maxHeartbeats 1000000 in
theorem faultW_any (s : ByteArray) (w : World) :
    Calls Tryz.prog 86 #[.int .i64 1, .string s] w fun e w' => e = .returned (.int .i64 (flt 1 s.data.toList)) ∧ Below w.heap.size w w' := by
  have hf := Lib.hid (flt_one s.data.toList)
  rw [str_len] at hf
  by_cases hc : 24 < s.size
  · have q : decide (24 < (s.size : Int)) = true := decide_eq_true (by omega)
    rw [if_pos hc] at hf
    go_enter Tryz.func86, Tryz.ntmps86
    go_wp2_with fail
    go_ret
    exact ⟨ret_int hf.out.symm, b0 w⟩
  · have q : decide (24 < (s.size : Int)) = false := decide_eq_false (by omega)
    rw [if_neg hc] at hf
    go_enter Tryz.func86, Tryz.ntmps86
    go_wp2_with fail
    go_ret
    exact ⟨ret_int hf.out.symm, b0 w⟩
set_option maxRecDepth 100000 in
set_option maxHeartbeats 1000000 in
theorem isTokenW_any (s : ByteArray) (hs : s.size ≤ 140737488355328) (w : World) (T : Tabs w) :
    Calls Tryz.prog 91 #[.int .i64 1, .string s] w fun e w' => e = .returned (.bool (prB 1 s)) ∧ Below w.heap.size w w' := by
  have SC := Lib.hid (shape_any s hs w T)
  clear T
  obtain ⟨q, hq⟩ : ∃ q, shp s.data.toList = q := ⟨_, rfl⟩
  obtain ⟨k1, n⟩ := q
  rw [hq] at SC
  by_cases h1 : k1 = 1
  · subst h1
    by_cases h2 : n = s.size
    · subst h2
      have q2 : ((s.size : Int) == (s.size : Int)) = true := by rw [beq_iff_eq]
      have FC := Lib.hid (fun W => faultW_any s W)
      have hp := Lib.hid (show prB 1 s = (flt 1 s.data.toList == 0) by unfold prB; rw [decide_eq_true hq, Bool.true_and, eqb])
      clear hq hs
      generalize flt 1 s.data.toList = f at *
      go_enter Tryz.func91, Tryz.ntmps91
      go_wp2_with fail
      refine SC.out.mono ?_
      rintro e w1 ⟨rfl, b1⟩
      have B1 := Lib.hid b1
      clear b1
      go_wp2_with fail
      refine (FC.out _).mono ?_
      rintro e w2 ⟨rfl, b2⟩
      have B2 := Lib.hid (bnext B1.out b2)
      clear b2
      generalize hf : (f == 0) = b at *
      cases b
      · go_wp2_with fail
        go_ret
        exact ⟨ret_bool hp.out.symm, B2.out⟩
      · go_wp2_with fail
        go_ret
        exact ⟨ret_bool hp.out.symm, B2.out⟩
    · have q2 : ((n : Int) == (s.size : Int)) = false := by rw [beq_eq_false_iff_ne]; omega
      have hp := Lib.hid (show prB 1 s = false by unfold prB; rw [decide_eq_false (by rw [hq]; intro e; exact h2 (Prod.mk.inj e).2), Bool.false_and])
      clear hq hs h2
      go_enter Tryz.func91, Tryz.ntmps91
      go_wp2_with fail
      refine SC.out.mono ?_
      rintro e w1 ⟨rfl, b1⟩
      have B1 := Lib.hid b1
      clear b1
      go_wp2_with fail
      go_ret
      exact ⟨ret_bool hp.out.symm, B1.out⟩
  · have q1 : (k1 == 1) = false := by rw [beq_eq_false_iff_ne]; exact h1
    have hp := Lib.hid (show prB 1 s = false by unfold prB; rw [decide_eq_false (by rw [hq]; intro e; exact h1 (Prod.mk.inj e).1), Bool.false_and])
    clear hq hs h1
    go_enter Tryz.func91, Tryz.ntmps91
    go_wp2_with fail
    refine SC.out.mono ?_
    rintro e w1 ⟨rfl, b1⟩
    have B1 := Lib.hid b1
    clear b1
    go_wp2_with fail
    go_ret
    exact ⟨ret_bool hp.out.symm, B1.out⟩
set_option maxRecDepth 100000 in
theorem nameW_any (s : ByteArray) (hs : s.size ≤ 140737488355328) (w : World) (T : Tabs w) :
    Calls Tryz.prog 43 #[.string s] w fun e w' => e = .returned (.bool (name s)) ∧ Below w.heap.size w w' := by
  have IC := Lib.hid (isTokenW_any s hs w T)
  have KC := Lib.hid (fun W => keyword_any s W)
  have hn : Hid (name s = (prB 1 s && !kw s)) := Lib.hid rfl
  generalize prB 1 s = p at *
  generalize kw s = q at *
  clear T
  cases p
  · go_enter Tryz.func43, Tryz.ntmps43
    go_wp2_with fail
    refine IC.out.mono ?_
    rintro e w1 ⟨rfl, b1⟩
    have B1 := Lib.hid b1
    clear b1
    go_wp2_with fail
    go_ret
    exact ⟨ret_bool hn.out.symm, B1.out⟩
  · go_enter Tryz.func43, Tryz.ntmps43
    go_wp2_with fail
    refine IC.out.mono ?_
    rintro e w1 ⟨rfl, b1⟩
    have B1 := Lib.hid b1
    clear b1
    go_wp2_with fail
    refine (KC.out _).mono ?_
    rintro e w2 ⟨rfl, rfl⟩
    go_wp2_with fail
    go_ret
    exact ⟨ret_bool hn.out.symm, B1.out⟩
end Go.Proofs.YtbahfelnbofjjaaGreatDoor
namespace Go.Proofs.YtbahfelnbofjjaaGreatDoor.un

/-! Words in order. -/
theorem less_irr : ∀ (l : List UInt8), Op.bytesLess l l = false
  | [] => rfl
  | a :: x => by rw [Op.bytesLess, less_irr x]; simp
theorem u8_lt {a b : UInt8} : (a < b) = (a.toNat < b.toNat) := rfl
theorem u8_eq {a b : UInt8} : (a = b) = (a.toNat = b.toNat) := propext ⟨fun h => by rw [h], fun h => UInt8.toNat_inj.1 h⟩
theorem less_cons (a b : UInt8) (x y : List UInt8) : Op.bytesLess (a :: x) (b :: y) = true ↔ a.toNat < b.toNat ∨ (a.toNat = b.toNat ∧ Op.bytesLess x y = true) := by
  rw [Op.bytesLess, Bool.or_eq_true, Bool.and_eq_true, decide_eq_true_eq, beq_iff_eq, u8_lt, u8_eq]
theorem less_tr : ∀ (x y z : List UInt8), Op.bytesLess x y = true → Op.bytesLess y z = true → Op.bytesLess x z = true
  | [], [], z, h, _ => by cases h
  | [], b :: y, [], _, h => by cases h
  | [], b :: y, c :: z, _, _ => rfl
  | a :: x, [], z, h, _ => by cases h
  | a :: x, b :: y, [], _, h => by cases h
  | a :: x, b :: y, c :: z, h1, h2 => by
    rw [less_cons] at *
    rcases h1 with h1 | ⟨h1, h1'⟩ <;> rcases h2 with h2 | ⟨h2, h2'⟩
    · omega
    · omega
    · omega
    · exact .inr ⟨by omega, less_tr x y z h1' h2'⟩
theorem less_tri : ∀ (x y : List UInt8), Op.bytesLess x y = false → x ≠ y → Op.bytesLess y x = true
  | [], [], _, h => absurd rfl h
  | [], b :: y, h, _ => by cases h
  | a :: x, [], _, _ => rfl
  | a :: x, b :: y, h, hne => by
    have h' : ¬ Op.bytesLess (a :: x) (b :: y) = true := by rw [h]; decide
    rw [less_cons] at h' ⊢
    by_cases e : a.toNat = b.toNat
    · refine .inr ⟨e.symm, less_tri x y ?_ ?_⟩
      · cases hx : Op.bytesLess x y
        · rfl
        · exact absurd (.inr ⟨e, hx⟩) h'
      · intro hxy
        apply hne
        rw [hxy, UInt8.toNat_inj.1 e]
    · exact .inl (by omega)
theorem toList_inj {a b : ByteArray} (h : a.toList = b.toList) : a = b := by
  rw [ByteArray.toList_eq, ByteArray.toList_eq] at h
  cases a; cases b
  simp only at h
  rw [Array.toList_inj.1 h]
def ltS (a b : ByteArray) : Bool := Op.bytesLess a.toList b.toList
theorem ltS_irr (a : ByteArray) : ltS a a = false := less_irr _
theorem ltS_tr {a b c : ByteArray} (h1 : ltS a b = true) (h2 : ltS b c = true) : ltS a c = true := less_tr _ _ _ h1 h2
theorem ltS_tri {a b : ByteArray} (h1 : ltS a b = false) (h2 : a ≠ b) : ltS b a = true := less_tri _ _ h1 fun e => h2 (toList_inj e)
theorem ltS_as {a b : ByteArray} (h : ltS a b = true) : ltS b a = false := by
  cases h' : ltS b a
  · rfl
  · have := ltS_tr h h'
    rw [ltS_irr] at this; cases this
theorem ltS_ne {a b : ByteArray} (h : ltS a b = true) : a ≠ b := fun e => by rw [e, ltS_irr] at h; cases h
theorem ltS_empty (b : ByteArray) : ltS .empty b = decide (b.size ≠ 0) := by
  have e : b.size = b.toList.length := by rw [ByteArray.toList_eq]; rfl
  unfold ltS
  rw [e]
  have e0 : ByteArray.empty.toList = [] := by rw [ByteArray.toList_eq]; rfl
  rw [e0]
  cases b.toList <;> rfl

/-! Units. -/
abbrev Fa := ByteArray × Int
def lett (c : Int) : Bool := decide (97 ≤ c ∧ c ≤ 122)
def digi (c : Int) : Bool := decide (48 ≤ c ∧ c ≤ 57)
def wch (c : UInt8) : Bool := lett c.toNat || (digi c.toNat || c.toNat == 95)
def wordL (l : List UInt8) : Bool := decide (1 ≤ l.length ∧ l.length ≤ 24) && (lett (l.headD 0).toNat && l.all wch)
def word (s : ByteArray) : Bool := wordL s.data.toList
def far (n : Int) : Bool := decide (8 < n ∨ n < -8)
def ck1 (b : ByteArray) (x : Fa) : Int := if word x.1 = false then 1 else if x.2 = 0 ∨ far x.2 = true then 70 else if ltS b x.1 = true then 0 else 3
def ckFrom (b : ByteArray) : List Fa → Int
  | [] => 0
  | x :: l => if ck1 b x = 0 then ckFrom x.1 l else ck1 b x
def ck (l : List Fa) : Int := if 4 < l.length then 2 else ckFrom .empty l

def Srt (l : List Fa) : Prop := l.Pairwise fun x y => ltS x.1 y.1 = true
structure Ok (l : List Fa) : Prop where
  le : l.length ≤ 4
  good : ∀ x ∈ l, word x.1 = true ∧ x.2 ≠ 0 ∧ far x.2 = false
  srt : Srt l
theorem word_size {s : ByteArray} (h : word s = true) : 1 ≤ s.size ∧ s.size ≤ 24 := by
  unfold word wordL at h
  simp only [Bool.and_eq_true, decide_eq_true_eq] at h
  rw [Lib.size_eq]
  exact h.1
theorem ck1_zero {b : ByteArray} {x : Fa} (h : ck1 b x = 0) : word x.1 = true ∧ x.2 ≠ 0 ∧ far x.2 = false ∧ ltS b x.1 = true := by
  unfold ck1 at h
  split at h
  · cases h
  · split at h
    · cases h
    · split at h
      · refine ⟨by simp_all, by simp_all, by simp_all, by assumption⟩
      · cases h
theorem ck1_of {b : ByteArray} {x : Fa} (h1 : word x.1 = true) (h2 : x.2 ≠ 0) (h3 : far x.2 = false) (h4 : ltS b x.1 = true) : ck1 b x = 0 := by
  unfold ck1
  rw [h1, h3, h4]
  simp [h2]
theorem ckFrom_ok : ∀ (l : List Fa) (b : ByteArray), ckFrom b l = 0 → (∀ x ∈ l, word x.1 = true ∧ x.2 ≠ 0 ∧ far x.2 = false) ∧ Srt l ∧ ∀ x ∈ l, ltS b x.1 = true
  | [], _, _ => ⟨fun x h => (by cases h), .nil, fun x h => by cases h⟩
  | x :: l, b, h => by
    unfold ckFrom at h
    split at h
    · rename_i h0
      obtain ⟨a1, a2, a3, a4⟩ := ck1_zero h0
      obtain ⟨i1, i2, i3⟩ := ckFrom_ok l x.1 h
      refine ⟨fun y hy => ?_, List.pairwise_cons.2 ⟨fun y hy => i3 y hy, i2⟩, fun y hy => ?_⟩
      · rcases List.mem_cons.1 hy with rfl | hy
        · exact ⟨a1, a2, a3⟩
        · exact i1 y hy
      · rcases List.mem_cons.1 hy with rfl | hy
        · exact a4
        · exact ltS_tr a4 (i3 y hy)
    · rename_i h0
      exact absurd h h0
theorem ckFrom_of : ∀ (l : List Fa) (b : ByteArray), (∀ x ∈ l, word x.1 = true ∧ x.2 ≠ 0 ∧ far x.2 = false) → Srt l → (∀ x ∈ l, ltS b x.1 = true) → ckFrom b l = 0
  | [], _, _, _, _ => rfl
  | x :: l, b, h1, h2, h3 => by
    obtain ⟨g1, g2, g3⟩ := h1 x (List.mem_cons_self ..)
    obtain ⟨p1, p2⟩ := List.pairwise_cons.1 h2
    unfold ckFrom
    rw [if_pos (ck1_of g1 g2 g3 (h3 x (List.mem_cons_self ..)))]
    exact ckFrom_of l x.1 (fun y hy => h1 y (List.mem_cons_of_mem _ hy)) p2 p1
theorem ck_iff (l : List Fa) : ck l = 0 ↔ Ok l := by
  unfold ck
  constructor
  · intro h
    split at h
    · cases h
    · obtain ⟨a, b, _⟩ := ckFrom_ok l _ h
      exact ⟨by omega, a, b⟩
  · intro h
    rw [if_neg (by have := h.le; omega)]
    refine ckFrom_of l _ h.good h.srt fun x hx => ?_
    rw [ltS_empty]
    have := word_size (h.good x hx).1
    exact decide_eq_true (by omega)
theorem Ok.nil : Ok [] := ⟨by simp, fun x h => (by cases h), .nil⟩

/-! The sum of the exponents of a name; the names in order. -/
def ex : List Fa → ByteArray → Int
  | [], _ => 0
  | x :: l, n => (if x.1 = n then x.2 else 0) + ex l n
theorem ex_append : ∀ (l r : List Fa) (n : ByteArray), ex (l ++ r) n = ex l n + ex r n
  | [], r, n => by simp [ex]
  | x :: l, r, n => by simp only [List.cons_append, ex, ex_append l r n]; omega
theorem ex_none : ∀ (l : List Fa) (n : ByteArray), (∀ x ∈ l, x.1 ≠ n) → ex l n = 0
  | [], _, _ => rfl
  | x :: l, n, h => by
    simp only [ex]
    rw [if_neg (h x (List.mem_cons_self ..)), ex_none l n fun y hy => h y (List.mem_cons_of_mem _ hy)]
    rfl
theorem ex_mem {l : List Fa} {n : ByteArray} (h : ex l n ≠ 0) : ∃ x ∈ l, x.1 = n := by
  by_cases hx : ∃ x ∈ l, x.1 = n
  · exact hx
  · exact absurd (ex_none l n fun x hm e => hx ⟨x, hm, e⟩) h
theorem ex_srt : ∀ {l : List Fa}, Srt l → ∀ x ∈ l, ex l x.1 = x.2
  | [], _, x, h => by cases h
  | y :: l, hs, x, h => by
    obtain ⟨p1, p2⟩ := List.pairwise_cons.1 hs
    simp only [ex]
    rcases List.mem_cons.1 h with rfl | h
    · rw [if_pos rfl, ex_none l x.1 fun z hz e => ltS_ne (p1 z hz) e.symm]
      omega
    · rw [if_neg (ltS_ne (p1 x h)), ex_srt p2 x h]
      omega
def ins (x : ByteArray) : List ByteArray → List ByteArray
  | [] => [x]
  | y :: l => if ltS y x = true then y :: ins x l else if y = x then y :: l else x :: y :: l
def ns (l : List Fa) : List ByteArray := l.foldl (fun o x => ins x.1 o) []
theorem mem_ins (x z : ByteArray) : ∀ l : List ByteArray, z ∈ ins x l ↔ z = x ∨ z ∈ l
  | [] => by simp [ins]
  | y :: l => by
    unfold ins
    split
    · rw [List.mem_cons, mem_ins x z l, List.mem_cons]
      constructor <;> rintro (h | h | h) <;> simp_all
    · split
      · rename_i h
        subst h
        simp
      · simp
def Inc (l : List ByteArray) : Prop := l.Pairwise fun a b => ltS a b = true
theorem inc_ins (x : ByteArray) : ∀ l : List ByteArray, Inc l → Inc (ins x l)
  | [], _ => by simp [ins, Inc]
  | y :: l, h => by
    obtain ⟨p1, p2⟩ := List.pairwise_cons.1 h
    unfold ins
    split
    · rename_i hy
      refine List.pairwise_cons.2 ⟨fun z hz => ?_, inc_ins x l p2⟩
      rcases (mem_ins x z l).1 hz with rfl | hz
      · exact hy
      · exact p1 z hz
    · rename_i hy
      split
      · exact h
      · rename_i hne
        have hxy : ltS x y = true := ltS_tri (by simpa using hy) hne
        refine List.pairwise_cons.2 ⟨fun z hz => ?_, h⟩
        rcases List.mem_cons.1 hz with rfl | hz
        · exact hxy
        · exact ltS_tr hxy (p1 z hz)
theorem ns_snoc (l : List Fa) (x : Fa) : ns (l ++ [x]) = ins x.1 (ns l) := by unfold ns; rw [List.foldl_append]; rfl
theorem mem_ns_go (z : ByteArray) : ∀ (l : List Fa) (o : List ByteArray), z ∈ l.foldl (fun o x => ins x.1 o) o ↔ z ∈ o ∨ ∃ x ∈ l, x.1 = z
  | [], _ => by simp
  | x :: l, o => by
    rw [List.foldl_cons, mem_ns_go z l, mem_ins]
    constructor
    · rintro ((h | h) | ⟨y, h1, h2⟩)
      · exact .inr ⟨x, List.mem_cons_self .., h.symm⟩
      · exact .inl h
      · exact .inr ⟨y, List.mem_cons_of_mem _ h1, h2⟩
    · rintro (h | ⟨y, h1, h2⟩)
      · exact .inl (.inr h)
      · rcases List.mem_cons.1 h1 with rfl | h1
        · exact .inl (.inl h2.symm)
        · exact .inr ⟨y, h1, h2⟩
theorem mem_ns {z : ByteArray} {l : List Fa} : z ∈ ns l ↔ ∃ x ∈ l, x.1 = z := by
  unfold ns
  rw [mem_ns_go]
  simp
theorem inc_ns_go : ∀ (l : List Fa) (o : List ByteArray), Inc o → Inc (l.foldl (fun o x => ins x.1 o) o)
  | [], _, h => h
  | x :: l, o, h => inc_ns_go l _ (inc_ins x.1 o h)
theorem inc_ns (l : List Fa) : Inc (ns l) := inc_ns_go l [] .nil

/-! Products. -/
def nzOf (l : List Fa) (o : List ByteArray) : List Fa := (o.filter fun n => decide (ex l n ≠ 0)).map fun n => (n, ex l n)
def nz (l : List Fa) : List Fa := nzOf l (ns l)
theorem mem_nz {l : List Fa} {x : Fa} : x ∈ nz l ↔ x.2 = ex l x.1 ∧ x.2 ≠ 0 := by
  unfold nz nzOf
  simp only [List.mem_map, List.mem_filter, decide_eq_true_eq]
  constructor
  · rintro ⟨n, ⟨_, h⟩, rfl⟩
    exact ⟨rfl, h⟩
  · rintro ⟨h1, h2⟩
    exact ⟨x.1, ⟨mem_ns.2 (ex_mem (h1 ▸ h2)), h1 ▸ h2⟩, by rw [← h1]⟩
theorem srt_nz (l : List Fa) : Srt (nz l) := by
  unfold nz nzOf Srt
  rw [List.pairwise_map]
  exact ((inc_ns l).sublist List.filter_sublist).imp fun h => h
theorem srt_ext : ∀ {l r : List Fa}, Srt l → Srt r → (∀ x, x ∈ l ↔ x ∈ r) → l = r
  | [], [], _, _, _ => rfl
  | [], y :: r, _, _, h => absurd ((h y).2 (List.mem_cons_self ..)) (by simp)
  | x :: l, [], _, _, h => absurd ((h x).1 (List.mem_cons_self ..)) (by simp)
  | x :: l, y :: r, hl, hr, h => by
    obtain ⟨p1, p2⟩ := List.pairwise_cons.1 hl
    obtain ⟨q1, q2⟩ := List.pairwise_cons.1 hr
    have exy : x = y := by
      rcases List.mem_cons.1 ((h x).1 (List.mem_cons_self ..)) with e | hx
      · exact e
      · rcases List.mem_cons.1 ((h y).2 (List.mem_cons_self ..)) with e | hy
        · exact e.symm
        · have a1 := q1 x hx
          have a2 := p1 y hy
          rw [ltS_as a1] at a2
          cases a2
    subst exy
    congr 1
    refine srt_ext p2 q2 fun z => ?_
    constructor
    · intro hz
      rcases List.mem_cons.1 ((h z).1 (List.mem_cons_of_mem _ hz)) with rfl | h'
      · have := p1 z hz; rw [ltS_irr] at this; cases this
      · exact h'
    · intro hz
      rcases List.mem_cons.1 ((h z).2 (List.mem_cons_of_mem _ hz)) with rfl | h'
      · have := q1 z hz; rw [ltS_irr] at this; cases this
      · exact h'
def wds (l : List Fa) : Bool := l.all fun x => word x.1
def anyFar (l : List Fa) : Bool := (ns l).any fun n => far (ex l n)
def nE (l : List Fa) : Int := if wds l = true then (if anyFar l = true then 70 else if 4 < (nz l).length then 2 else 0) else 1
def nL (l : List Fa) : List Fa := if nE l = 0 then nz l else []
theorem anyFar_iff (l : List Fa) : anyFar l = true ↔ ∃ n, far (ex l n) = true := by
  unfold anyFar
  rw [List.any_eq_true]
  constructor
  · rintro ⟨n, _, h⟩; exact ⟨n, h⟩
  · rintro ⟨n, h⟩
    refine ⟨n, mem_ns.2 (ex_mem fun e => ?_), h⟩
    rw [e] at h
    cases h
theorem n_congr {l r : List Fa} (h1 : wds l = true) (h2 : wds r = true) (h : ∀ n, ex l n = ex r n) : nE l = nE r ∧ nL l = nL r := by
  have e1 : anyFar l = anyFar r := by
    rw [Bool.eq_iff_iff, anyFar_iff, anyFar_iff]
    simp only [h]
  have e2 : nz l = nz r := srt_ext (srt_nz l) (srt_nz r) fun x => by rw [mem_nz, mem_nz, h]
  have e3 : nE l = nE r := by unfold nE; rw [h1, h2, e1, e2]
  exact ⟨e3, by unfold nL; rw [e3, e2]⟩
theorem nE_zero {l : List Fa} (h : nE l = 0) : wds l = true ∧ anyFar l = false ∧ (nz l).length ≤ 4 := by
  unfold nE at h
  split at h
  · split at h
    · cases h
    · split at h
      · cases h
      · refine ⟨by assumption, by simp_all, by omega⟩
  · cases h
theorem wds_iff {l : List Fa} : wds l = true ↔ ∀ x ∈ l, word x.1 = true := by unfold wds; rw [List.all_eq_true]
theorem nL_ok {l : List Fa} (h : nE l = 0) : Ok (nL l) ∧ ∀ n, ex (nL l) n = ex l n := by
  obtain ⟨h1, h2, h3⟩ := nE_zero h
  have e : nL l = nz l := by unfold nL; rw [if_pos h]
  rw [e]
  refine ⟨⟨h3, fun x hx => ?_, srt_nz l⟩, fun n => ?_⟩
  · obtain ⟨a, b⟩ := mem_nz.1 hx
    refine ⟨?_, b, ?_⟩
    · obtain ⟨y, hy, e⟩ := ex_mem (a ▸ b)
      rw [← e]
      exact wds_iff.1 h1 y hy
    · cases hf : far x.2
      · rfl
      · rw [a] at hf
        rw [(anyFar_iff l).2 ⟨_, hf⟩] at h2
        cases h2
  · by_cases h0 : ex l n = 0
    · rw [h0]
      exact ex_none _ _ fun x hx e => by
        obtain ⟨a, b⟩ := mem_nz.1 hx
        rw [e] at a
        exact b (a.trans h0)
    · exact ex_srt (srt_nz l) (n, ex l n) (mem_nz.2 ⟨rfl, h0⟩)
theorem Ok.wds {l : List Fa} (h : Ok l) : wds l = true := wds_iff.2 fun x hx => (h.good x hx).1
theorem n_ok {l : List Fa} (h : Ok l) : nE l = 0 ∧ nL l = l := by
  have e : nz l = l := srt_ext (srt_nz l) h.srt fun x => by
    rw [mem_nz]
    constructor
    · rintro ⟨a, b⟩
      obtain ⟨y, hy, e⟩ := ex_mem (a ▸ b)
      have := ex_srt h.srt y hy
      rw [e, ← a] at this
      have : y = x := Prod.ext e this.symm
      exact this ▸ hy
    · intro hx
      exact ⟨(ex_srt h.srt x hx).symm, (h.good x hx).2.1⟩
  have e2 : anyFar l = false := by
    cases hf : anyFar l
    · rfl
    · obtain ⟨n, hn⟩ := (anyFar_iff l).1 hf
      obtain ⟨x, hx, e3⟩ := ex_mem (l := l) (n := n) fun e => by rw [e] at hn; cases hn
      rw [← e3, ex_srt h.srt x hx, (h.good x hx).2.2] at hn
      cases hn
  have e4 : nE l = 0 := by
    unfold nE
    rw [h.wds, e2, e]
    have := h.le
    simp; omega
  exact ⟨e4, by unfold nL; rw [if_pos e4, e]⟩
/-- b with all exponents times p. -/
def sc (p : Int) (b : List Fa) : List Fa := b.map fun x => (x.1, x.2 * p)
theorem ex_sc (p : Int) : ∀ (l : List Fa) (n : ByteArray), ex (sc p l) n = ex l n * p
  | [], _ => by simp [sc, ex]
  | x :: l, n => by
    have := ex_sc p l n
    simp only [sc, List.map_cons, ex] at *
    rw [this, Int.add_mul]
    split <;> simp
theorem sc_one (l : List Fa) : sc 1 l = l := by unfold sc; simp
theorem wds_sc (p : Int) (l : List Fa) : wds (sc p l) = wds l := by unfold wds sc; rw [List.all_map]; rfl
theorem wds_append (l r : List Fa) : wds (l ++ r) = (wds l && wds r) := by unfold wds; rw [List.all_append]
theorem far_neg (n : Int) : far (n * -1) = far n := by unfold far; congr 1; rw [eq_iff_iff]; omega
theorem Ok.neg {l : List Fa} (h : Ok l) : Ok (sc (-1) l) := by
  refine ⟨by simpa [sc] using h.le, fun x hx => ?_, ?_⟩
  · simp only [sc, List.mem_map] at hx
    obtain ⟨y, hy, rfl⟩ := hx
    obtain ⟨a, b, c⟩ := h.good y hy
    exact ⟨a, by simp; exact b, by rw [far_neg]; exact c⟩
  · unfold sc Srt
    rw [List.pairwise_map]
    exact h.srt
/-- What Times (p = 1) and Over (p = -1) return. -/
def cE (p : Int) (a b : List Fa) : Int := if ck a = 0 then (if ck b = 0 then nE (a ++ sc p b) else ck b) else ck a
def cL (p : Int) (a b : List Fa) : List Fa := if cE p a b = 0 then nL (a ++ sc p b) else []
theorem cE_ok {p : Int} {a b : List Fa} (ha : Ok a) (hb : Ok b) : cE p a b = nE (a ++ sc p b) := by unfold cE; rw [if_pos ((ck_iff a).2 ha), if_pos ((ck_iff b).2 hb)]
theorem cE_zero {p : Int} {a b : List Fa} (h : cE p a b = 0) : Ok a ∧ Ok b ∧ nE (a ++ sc p b) = 0 := by
  unfold cE at h
  split at h
  · rename_i h1
    split at h
    · rename_i h2
      exact ⟨(ck_iff a).1 h1, (ck_iff b).1 h2, h⟩
    · rename_i h2; exact absurd h h2
  · rename_i h1; exact absurd h h1
theorem c_out {p : Int} {a b : List Fa} (h : cE p a b = 0) : Ok (cL p a b) ∧ ∀ n, ex (cL p a b) n = ex a n + ex b n * p := by
  obtain ⟨_, _, h1⟩ := cE_zero h
  have e : cL p a b = nL (a ++ sc p b) := by unfold cL; rw [if_pos h]
  rw [e]
  obtain ⟨k1, k2⟩ := nL_ok h1
  exact ⟨k1, fun n => by rw [k2, ex_append, ex_sc]⟩
/-- Whatever has the exponents of a valid unit comes to that unit. -/
theorem c_is {p : Int} {a b u : List Fa} (ha : Ok a) (hb : Ok b) (hu : Ok u) (h : ∀ n, ex a n + ex b n * p = ex u n) : cE p a b = 0 ∧ cL p a b = u := by
  have hw : wds (a ++ sc p b) = true := by rw [wds_append, wds_sc, ha.wds, hb.wds]; rfl
  obtain ⟨c1, c2⟩ := n_congr hw hu.wds fun n => by rw [ex_append, ex_sc]; exact h n
  obtain ⟨k1, k2⟩ := n_ok hu
  have e : cE p a b = 0 := by rw [cE_ok ha hb, c1, k1]
  exact ⟨e, by unfold cL; rw [if_pos e, c2, k2]⟩
theorem c_comm {a b : List Fa} (ha : Ok a) (hb : Ok b) : cE 1 a b = cE 1 b a ∧ cL 1 a b = cL 1 b a := by
  have hw : wds (a ++ sc 1 b) = true := by rw [wds_append, wds_sc, ha.wds, hb.wds]; rfl
  have hw2 : wds (b ++ sc 1 a) = true := by rw [wds_append, wds_sc, ha.wds, hb.wds]; rfl
  obtain ⟨c1, c2⟩ := n_congr hw hw2 fun n => by rw [ex_append, ex_sc, ex_append, ex_sc]; omega
  have e : cE 1 a b = cE 1 b a := by rw [cE_ok ha hb, cE_ok hb ha, c1]
  exact ⟨e, by unfold cL; rw [e, c2]⟩
theorem c_nil {a : List Fa} (ha : Ok a) : cE 1 a [] = 0 ∧ cL 1 a [] = a := c_is ha Ok.nil ha fun n => by simp [ex]
theorem c_back {a b : List Fa} (h : cE 1 a b = 0) : cE (-1) (cL 1 a b) b = 0 ∧ cL (-1) (cL 1 a b) b = a := by
  obtain ⟨ha, hb, _⟩ := cE_zero h
  obtain ⟨k1, k2⟩ := c_out h
  exact c_is k1 hb ha fun n => by rw [k2]; omega
theorem c_back2 {a b : List Fa} (h : cE (-1) a b = 0) : cE 1 (cL (-1) a b) b = 0 ∧ cL 1 (cL (-1) a b) b = a := by
  obtain ⟨ha, hb, _⟩ := cE_zero h
  obtain ⟨k1, k2⟩ := c_out h
  exact c_is k1 hb ha fun n => by rw [k2]; omega
theorem c_assoc {a b c : List Fa} (h : cE 1 a b = 0) (g : cE 1 b c = 0) : cE 1 (cL 1 a b) c = cE 1 a (cL 1 b c) ∧ cL 1 (cL 1 a b) c = cL 1 a (cL 1 b c) := by
  obtain ⟨ha, hb, _⟩ := cE_zero h
  obtain ⟨_, hc, _⟩ := cE_zero g
  obtain ⟨k1, k2⟩ := c_out h
  obtain ⟨m1, m2⟩ := c_out g
  have hw : wds (cL 1 a b ++ sc 1 c) = true := by rw [wds_append, wds_sc, k1.wds, hc.wds]; rfl
  have hw2 : wds (a ++ sc 1 (cL 1 b c)) = true := by rw [wds_append, wds_sc, ha.wds, m1.wds]; rfl
  obtain ⟨c1, c2⟩ := n_congr hw hw2 fun n => by rw [ex_append, ex_sc, ex_append, ex_sc, k2, m2]; omega
  have e : cE 1 (cL 1 a b) c = cE 1 a (cL 1 b c) := by rw [cE_ok k1 hc, cE_ok ha m1, c1]
  exact ⟨e, by unfold cL at c2 ⊢; unfold cL at e; rw [e, c2]⟩
end Go.Proofs.YtbahfelnbofjjaaGreatDoor.un
namespace Go.Proofs.YtbahfelnbofjjaaGreatDoor
open Go.RowKit dec

/-- What an expression holds besides its arguments. -/
structure Hd where
  k : Int
  op : ByteArray
  nm : ByteArray
  tb : ByteArray
  vk : Int
  vn : Int
  vs : ByteArray
  un : List un.Fa
  pa : Int
  wk : Int
  ws : Int
/-- A row of expressions. -/
inductive Fo where
  | nil
  | cons (h : Hd) (ar r : Fo)
def Fo.len : Fo → Nat
  | .nil => 0
  | .cons _ _ r => r.len + 1
structure Ex where
  h : Hd
  ar : Fo
structure Ty where
  k : Int
  un : List un.Fa
  of : ByteArray
structure Fi where
  nm : ByteArray
  ty : Ty
structure Tb where
  nm : ByteArray
  en : ByteArray
  fs : List Fi
  kp : Int
def h0 : Hd := ⟨0, .empty, .empty, .empty, 0, 0, .empty, [], 0, 0, 0⟩
def Fo.nth : Fo → Nat → Ex
  | .nil, _ => ⟨h0, .nil⟩
  | .cons h ar _, 0 => ⟨h, ar⟩
  | .cons _ _ r, j + 1 => r.nth j
def Fo.drop : Fo → Nat → Fo
  | F, 0 => F
  | .nil, _ + 1 => .nil
  | .cons _ _ r, j + 1 => r.drop j
def Fo.sz : Fo → Nat
  | .nil => 0
  | .cons _ ar r => ar.sz + r.sz + 1
theorem nth_sz : ∀ (F : Fo) (j : Nat), j < F.len → (F.nth j).ar.sz < F.sz
  | .nil, _, h => absurd h (Nat.not_lt_zero _)
  | .cons h ar r, 0, _ => by
    simp only [Fo.nth, Fo.sz]
    omega
  | .cons h ar r, j + 1, hj => by
    have := nth_sz r j (by simpa [Fo.len] using hj)
    simp only [Fo.nth, Fo.sz]
    omega
theorem drop_nth : ∀ (F : Fo) (j : Nat), j < F.len → F.drop j = .cons (F.nth j).h (F.nth j).ar (F.drop (j + 1))
  | .nil, _, h => absurd h (Nat.not_lt_zero _)
  | .cons h ar .nil, 0, _ => rfl
  | .cons h ar (.cons a b c), 0, _ => rfl
  | .cons h ar r, j + 1, hj => by
    have := drop_nth r j (by simpa [Fo.len] using hj)
    simpa [Fo.nth, Fo.drop] using this
theorem drop_end : ∀ (F : Fo) (j : Nat), F.len ≤ j → F.drop j = .nil
  | .nil, 0, _ => rfl
  | .nil, _ + 1, _ => rfl
  | .cons h ar r, 0, hj => by simp [Fo.len] at hj
  | .cons h ar r, j + 1, hj => by
    have := drop_end r j (by simpa [Fo.len] using hj)
    simpa [Fo.drop] using this
theorem drop_zero (F : Fo) : F.drop 0 = F := by cases F <;> rfl

end Go.Proofs.YtbahfelnbofjjaaGreatDoor

/-
  The reference: names; LexerWords: the walk.
-/
import Derived.Test.YtkfciilclfhabaaDoorRkw
namespace Go.Proofs.YtkfciilclfhabaaDoor
open Go.RowKit dec

theorem empty_is (l : List UInt8) : (l == []) = l.isEmpty := by cases l <;> rfl
theorem name_word (s : ByteArray) : name s = (wordP s.data.toList && !kw s) := by unfold name; rw [prB_word, wd1_eq]
theorem wordP_no {s : ByteArray} (h : s.size = 0 ∨ 24 < s.size) : wordP s.data.toList = false := by
  have hl := str_len s
  cases hd : s.data.toList with
  | nil => rfl
  | cons c r =>
    rw [hd] at hl
    rw [List.length_cons] at hl
    show (isL c && decide (run isW (c :: r) = (c :: r).length) && decide ((c :: r).length ≤ 24)) = false
    rw [decide_eq_false (p := (c :: r).length ≤ 24) (by rw [List.length_cons]; omega), Bool.and_false]
theorem wordP_is {s : ByteArray} (h0 : s.size ≠ 0) (h : s.size ≤ 24) : wordP s.data.toList = ((wdN (s.data.toList.drop 0) : Int) == (s.size : Int)) := by
  have hl := str_len s
  rw [List.drop_zero, eqb]
  cases hd : s.data.toList with
  | nil => rw [hd] at hl; exact absurd hl.symm h0
  | cons c r =>
    rw [hd] at hl
    show (isL c && decide (run isW (c :: r) = (c :: r).length) && decide ((c :: r).length ≤ 24)) = decide (((if isL c = true then run isW (c :: r) else 0 : Nat) : Int) = (s.size : Int))
    rw [decide_eq_true (p := (c :: r).length ≤ 24) (by omega), Bool.and_true, hl]
    cases isL c
    · rw [Bool.false_and]
      symm
      rw [decide_eq_false_iff_not]
      simp
      omega
    · rw [Bool.true_and, if_pos rfl, decide_eq_decide]
      omega
set_option maxRecDepth 100000 in
set_option maxHeartbeats 4000000 in
theorem rname_any (s : ByteArray) (w : World) : Calls Tryd.prog 12 #[.string s] w fun e w' => e = .returned (.bool (name s)) ∧ Below w.heap.size w w' := by
  have hn := name_word s
  have KC := Lib.hid (fun W => rkeyword_any s W)
  have HE := toList_nil s
  by_cases h0 : s.size = 0
  · have hr := Lib.hid (show name s = false by rw [hn, wordP_no (.inl h0)]; rfl)
    have q1 : s.toList.isEmpty = true := by rw [← empty_is, HE, decide_eq_true h0]
    clear hn HE KC h0
    go_enter Tryd.func12, Tryd.ntmps12
    go_wp2_with fail
    go_ret
    exact ⟨ret_bool hr.out.symm, b0 w⟩
  · have q1 : s.toList.isEmpty = false := by rw [← empty_is, HE, decide_eq_false h0]
    by_cases h24 : 24 < s.size
    · have hr := Lib.hid (show name s = false by rw [hn, wordP_no (.inr h24)]; rfl)
      have q2 : decide ((s.size : Int) ≤ 24) = false := decide_eq_false (by omega)
      have q2' : decide (s.size ≤ 24) = false := decide_eq_false (by omega)
      clear hn HE KC h0 h24
      go_enter Tryd.func12, Tryd.ntmps12
      go_wp2_with fail
      go_ret
      exact ⟨ret_bool hr.out.symm, b0 w⟩
    · have q2 : decide ((s.size : Int) ≤ 24) = true := decide_eq_true (by omega)
      have q2' : decide (s.size ≤ 24) = true := decide_eq_true (by omega)
      rw [wordP_is h0 (by omega)] at hn
      obtain ⟨w1, cv, hcv, hB, b1⟩ := bytes_of w s (by omega)
      have WC := Lib.hid (rword_any _ _ _ s (by omega) 0 (by omega) w1 hB)
      rw [show ((0 : Nat) : Int) = 0 from rfl] at WC
      have B1 := Lib.hid b1
      replace hn := Lib.hid hn
      clear HE h0 h24 b1 hB
      generalize ((wdN (s.data.toList.drop 0) : Nat) : Int) = x at *
      cases hx : (x == (s.size : Int))
      · have hr := Lib.hid (show name s = false by rw [hn.out, hx]; rfl)
        go_enter Tryd.func12, Tryd.ntmps12
        go_wp2_with fail
        refine WC.out.mono ?_
        rintro e w2 ⟨rfl, rfl⟩
        go_wp2_with fail
        go_ret
        exact ⟨ret_bool hr.out.symm, B1.out⟩
      · have hr := Lib.hid (show name s = !kw s by rw [hn.out, hx]; rfl)
        go_enter Tryd.func12, Tryd.ntmps12
        go_wp2_with fail
        refine WC.out.mono ?_
        rintro e w2 ⟨rfl, rfl⟩
        go_wp2_with fail
        refine (KC.out _).mono ?_
        rintro e w3 ⟨rfl, rfl⟩
        go_wp2_with fail
        go_ret
        exact ⟨ret_bool hr.out.symm, B1.out⟩
set_option maxRecDepth 100000 in
set_option maxHeartbeats 4000000 in
theorem walk_words (s : ByteArray) (w : World) (T : Tabs w) :
    Calls Tryd.prog 3 #[.string s] w fun e w' => e = .returned (.bool true) ∧ Below w.heap.size w w' := by
  have EX := Lib.hid (example_any w T)
  have T0 := Lib.hid T
  clear T
  by_cases hbig : 200 < s.size
  · have q1 : decide (200 < (s.size : Int)) = true := decide_eq_true (by omega)
    clear hbig
    go_enter Tryd.func3, Tryd.ntmps3
    go_wp2_with fail
    refine EX.out.mono ?_
    rintro e w1 ⟨rfl, b1⟩
    have B1 := Lib.hid b1
    clear b1
    go_wp2_with fail
    go_ret
    exact ⟨rfl, B1.out⟩
  · have q1 : decide (200 < (s.size : Int)) = false := decide_eq_false (by omega)
    have KC := Lib.hid (fun W => keyword_any s W)
    have RC := Lib.hid (fun W => rkeyword_any s W)
    have NC := Lib.hid (fun W T => name_any s (by omega) W T)
    have MC := Lib.hid (fun W => rname_any s W)
    generalize kw s = k at *
    generalize name s = n at *
    have e1 : (k == k) = true := by simp
    have e2 : (n == n) = true := by simp
    clear hbig
    go_enter Tryd.func3, Tryd.ntmps3
    go_wp2_with fail
    refine EX.out.mono ?_
    rintro e w1 ⟨rfl, b1⟩
    have B1 := Lib.hid b1
    clear b1
    go_wp2_with fail
    refine (KC.out _).mono ?_
    rintro e w2 ⟨rfl, rfl⟩
    go_wp2_with fail
    refine (RC.out _).mono ?_
    rintro e w3 ⟨rfl, rfl⟩
    go_wp2_with fail
    refine (NC.out _ (T0.out.stays B1.out)).mono ?_
    rintro e w4 ⟨rfl, b4⟩
    have B4 := Lib.hid (bnext B1.out b4)
    clear b4
    go_wp2_with fail
    refine (MC.out _).mono ?_
    rintro e w5 ⟨rfl, b5⟩
    have B5 := Lib.hid (bnext B4.out b5)
    clear b5
    go_wp2_with fail
    go_ret
    exact ⟨rfl, B5.out⟩
end Go.Proofs.YtkfciilclfhabaaDoor

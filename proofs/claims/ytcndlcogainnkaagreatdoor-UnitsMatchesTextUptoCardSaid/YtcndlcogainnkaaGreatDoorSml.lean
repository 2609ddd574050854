/-
  The small functions: letters, digits, ranges, words; the reference's.
-/
import Derived.Test.YtcndlcogainnkaaGreatDoorMem
namespace Go.Proofs.YtcndlcogainnkaaGreatDoor
open Go.RowKit dec

theorem letter_any (c : Int) (w : World) : Calls Tryz.prog 46 #[.int .u8 c] w fun e w' => e = .returned (.bool (lett c)) ∧ w = w' := by
  go_enter Tryz.func46, Tryz.ntmps46
  go_wp2_with fail
  all_goals go_ret
  all_goals refine ⟨ret_bool ?_, rfl⟩
  all_goals unfold lett
  all_goals simp_all
  all_goals omega
theorem digit_any (c : Int) (w : World) : Calls Tryz.prog 47 #[.int .u8 c] w fun e w' => e = .returned (.bool (digi c)) ∧ w = w' := by
  go_enter Tryz.func47, Tryz.ntmps47
  go_wp2_with fail
  all_goals go_ret
  all_goals refine ⟨ret_bool ?_, rfl⟩
  all_goals unfold digi
  all_goals simp_all
  all_goals omega
theorem range_any (n : Int) (w : World) : Calls Tryz.prog 31 #[.int .i64 n] w fun e w' => e = .returned (.bool (!far n)) ∧ w = w' := by
  go_enter Tryz.func31, Tryz.ntmps31
  go_wp2_with fail
  all_goals go_ret
  all_goals refine ⟨ret_bool ?_, rfl⟩
  all_goals unfold far
  all_goals rw [Bool.eq_iff_iff]
  all_goals simp
  all_goals omega
theorem far_any (n : Int) (w : World) : Calls Tryz.prog 37 #[.int .i64 n] w fun e w' => e = .returned (.bool (far n)) ∧ w = w' := by
  go_enter Tryz.func37, Tryz.ntmps37
  go_wp2_with fail
  all_goals go_ret
  all_goals refine ⟨ret_bool ?_, rfl⟩
  all_goals unfold far
  all_goals simp_all

theorem wch_at (s : ByteArray) {j : Nat} (hj : j < s.size) : (s.data.toList.drop j).all wch = (wch s[j] && (s.data.toList.drop (j + 1)).all wch) := by
  have h : j < s.data.toList.length := by rw [← Lib.size_eq]; exact hj
  rw [List.drop_eq_getElem_cons h]
  rfl
theorem wch_end (s : ByteArray) {j : Nat} (hj : s.size ≤ j) : (s.data.toList.drop j).all wch = true := by
  rw [List.drop_eq_nil_of_le (by rw [← Lib.size_eq]; exact hj)]
  rfl
theorem word_is (s : ByteArray) (h0 : 0 < s.size) : word s = (decide (s.size ≤ 24) && (lett s[0].toNat && (s.data.toList.drop 0).all wch)) := by
  unfold word wordL
  rw [← Lib.size_eq, List.drop_zero]
  have h : 0 < s.data.toList.length := by rw [← Lib.size_eq]; exact h0
  have e : s.data.toList.headD 0 = s[0] := by
    have := List.drop_eq_getElem_cons h
    rw [List.drop_zero] at this
    rw [this]
    rfl
  rw [e]
  congr 1
  rw [decide_eq_decide]
  omega
theorem word_none (s : ByteArray) (h0 : s.size = 0) : word s = false := by
  unfold word wordL
  rw [← Lib.size_eq, h0]
  rfl
theorem toList_nil (s : ByteArray) : (s.toList == []) = decide (s.size = 0) := by
  have e : s.size = s.toList.length := by rw [ByteArray.toList_eq]; rfl
  rw [e]
  cases s.toList <;> rfl
theorem wch_is (c : UInt8) : wch c = (lett c.toNat || (digi c.toNat || decide ((c.toNat : Int) = 95))) := by
  unfold wch
  congr 2
  rw [Bool.eq_iff_iff]
  simp
  omega
theorem next_at {j : Nat} (h : j < 9223372036854775807) : wrap64 ((j : Int) + 1) = ((j + 1 : Nat) : Int) := by unfold wrap64; omega
theorem less_at {n j : Nat} (h : j < n) (f : wrap64 ((j : Int) + 1) = ((j + 1 : Nat) : Int)) : n - (intOf (Value.int .i64 (wrap64 ((j : Int) + 1)))).toNat < n - (intOf (Value.int .i64 (j : Int))).toNat := by
  rw [f]
  clear f
  show n - (((j + 1 : Nat) : Int)).toNat < n - ((j : Nat) : Int).toNat
  rw [Int.toNat_natCast, Int.toNat_natCast]
  omega
set_option maxHeartbeats 1000000 in
theorem isWord_any (s : ByteArray) (w : World) : Calls Tryz.prog 27 #[.string s] w fun e w' => e = .returned (.bool (word s)) ∧ w = w' := by
  have L := Lib.hid letter_any
  have D := Lib.hid digit_any
  by_cases h0 : s.size = 0
  · rw [word_none s h0]
    have q1 : (s.toList == []) = true := by rw [toList_nil, h0]; rfl
    clear L D
    go_enter Tryz.func27, Tryz.ntmps27
    go_wp2_with fail
    go_ret
    exact ⟨rfl, rfl⟩
  · have h0' : 0 < s.size := by omega
    have hw := word_is s h0'
    have q1 : (s.toList == []) = false := by rw [toList_nil]; exact decide_eq_false h0
    by_cases h24 : s.size ≤ 24
    · have q2 : decide (24 < (s.size : Int)) = false := decide_eq_false (by omega)
      rw [decide_eq_true h24, Bool.true_and] at hw
      have hS := Lib.hid h24
      clear h24
      cases hl : lett s[0].toNat
      · rw [hl, Bool.false_and] at hw
        rw [hw]
        go_enter Tryz.func27, Tryz.ntmps27
        go_wp2_with fail
        refine (L.out _ _).mono ?_
        rintro e w' ⟨rfl, rfl⟩
        go_wp2_with fail
        go_ret
        exact ⟨rfl, rfl⟩
      · rw [hl, Bool.true_and] at hw
        have H := Lib.hid hw
        clear hw
        go_enter Tryz.func27, Tryz.ntmps27
        go_wp2_with fail
        refine (L.out _ _).mono ?_
        rintro e w' ⟨rfl, rfl⟩
        go_wp2_with fail
        go_loopw [20] (fun vi wr => ∃ j : Nat, vi = .int .i64 (j : Nat) ∧ j ≤ s.size ∧ Hid (word s = (s.data.toList.drop j).all wch) ∧ w = wr) (fun vi _ => s.size - (intOf vi).toNat)
        case atStart => exact ⟨0, rfl, by omega, H, rfl⟩
        case round =>
          obtain ⟨j, rfl, hj, hd, rfl⟩ := hrel
          clear H
          by_cases hc : j < s.size
          · have hst := hd.out
            rw [wch_at s hc, wch_is] at hst
            have q3 : decide ((j : Int) < (s.size : Int)) = true := decide_eq_true (by omega)
            have f4 := Lib.hid (next_at (j := j) (by have := hS.out; omega))
            generalize hJ : ((s[j].toNat : Nat) : Int) = c at hst
            clear hd
            cases hlc : lett c
            · cases hdc : digi c
              · by_cases h95 : c = 95
                · rw [hlc, hdc, decide_eq_true h95] at hst
                  have q5 : (c == 95) = true := beq_iff_eq.2 h95
                  simp only [Bool.false_or, Bool.true_and] at hst
                  have H := Lib.hid hst
                  clear hst h95
                  go_wp2_with fail
                  refine (L.out _ _).mono ?_
                  rintro e w' ⟨rfl, rfl⟩
                  go_wp2_with fail
                  refine (D.out _ _).mono ?_
                  rintro e w' ⟨rfl, rfl⟩
                  go_wp2_with fail
                  go_roundw
                  case rel => exact ⟨j + 1, congrArg (Value.int .i64) f4.out, hc, H, trivial⟩
                  case measure => exact less_at hc f4.out
                · rw [hlc, hdc, decide_eq_false h95] at hst
                  have q5 : (c == 95) = false := beq_eq_false_iff_ne.2 h95
                  simp only [Bool.false_or, Bool.false_and] at hst
                  have H := Lib.hid hst
                  clear hst h95
                  go_wp2_with fail
                  refine (L.out _ _).mono ?_
                  rintro e w' ⟨rfl, rfl⟩
                  go_wp2_with fail
                  refine (D.out _ _).mono ?_
                  rintro e w' ⟨rfl, rfl⟩
                  go_wp2_with fail
                  go_ret
                  exact ⟨ret_bool H.out.symm, rfl⟩
              · rw [hlc, hdc] at hst
                simp only [Bool.true_or, Bool.false_or, Bool.true_and] at hst
                have H := Lib.hid hst
                clear hst
                go_wp2_with fail
                refine (L.out _ _).mono ?_
                rintro e w' ⟨rfl, rfl⟩
                go_wp2_with fail
                refine (D.out _ _).mono ?_
                rintro e w' ⟨rfl, rfl⟩
                go_wp2_with fail
                go_roundw
                case rel => exact ⟨j + 1, congrArg (Value.int .i64) f4.out, hc, H, trivial⟩
                case measure => exact less_at hc f4.out
            · rw [hlc] at hst
              simp only [Bool.true_or, Bool.true_and] at hst
              have H := Lib.hid hst
              clear hst
              go_wp2_with fail
              refine (L.out _ _).mono ?_
              rintro e w' ⟨rfl, rfl⟩
              go_wp2_with fail
              go_roundw
              case rel => exact ⟨j + 1, congrArg (Value.int .i64) f4.out, hc, H, trivial⟩
              case measure => exact less_at hc f4.out
          · have hst := hd.out
            rw [wch_end s (by omega)] at hst
            have H := Lib.hid hst
            clear hst hd
            have q3 : decide ((j : Int) < (s.size : Int)) = false := decide_eq_false (by omega)
            go_wp2_with fail
            go_ret
            exact ⟨ret_bool H.out.symm, rfl⟩
    · rw [decide_eq_false h24, Bool.false_and] at hw
      have q2 : decide (24 < (s.size : Int)) = true := decide_eq_true (by omega)
      rw [hw]
      go_enter Tryz.func27, Tryz.ntmps27
      go_wp2_with fail
      go_ret
      exact ⟨rfl, rfl⟩
end Go.Proofs.YtcndlcogainnkaaGreatDoor

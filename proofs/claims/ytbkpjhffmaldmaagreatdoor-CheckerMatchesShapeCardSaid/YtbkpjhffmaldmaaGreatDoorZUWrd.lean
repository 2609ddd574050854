/-
  The reference's Word.
-/
import Derived.Test.YtbkpjhffmaldmaaGreatDoorQ03
namespace Go.Proofs.YtbkpjhffmaldmaaGreatDoor.un
open Go.RowKit dec

theorem wf_false {c : Int} (h1 : ¬ (97 ≤ c ∧ c ≤ 122)) (h2 : ¬ (48 ≤ c ∧ c ≤ 57)) (h3 : ¬ c = 95) : (lett c || (digi c || decide (c = 95))) = false := by
  unfold lett digi
  rw [decide_eq_false h1, decide_eq_false h2, decide_eq_false h3]
  rfl
theorem wf_true {c : Int} (h : (97 ≤ c ∧ c ≤ 122) ∨ (48 ≤ c ∧ c ≤ 57) ∨ c = 95) : (lett c || (digi c || decide (c = 95))) = true := by
  unfold lett digi
  rcases h with h | h | h
  · rw [decide_eq_true h]; rfl
  · rw [decide_eq_true h]; simp
  · rw [decide_eq_true h]; simp
set_option maxHeartbeats 2000000 in
theorem rword_any (s : ByteArray) (w : World) : Calls Tryz.prog 70 #[.string s] w fun e w' => e = .returned (.bool (word s)) ∧ w = w' := by
  by_cases h0 : s.size = 0
  · rw [word_none s h0]
    have q1 : decide ((s.size : Int) < 1) = true := decide_eq_true (by omega)
    go_enter Tryz.func70, Tryz.ntmps70
    go_wp2_with fail
    go_ret
    exact ⟨rfl, rfl⟩
  · have h0' : 0 < s.size := by omega
    have hw := word_is s h0'
    have q1 : decide ((s.size : Int) < 1) = false := decide_eq_false (by omega)
    by_cases h24 : s.size ≤ 24
    · have q2 : decide (24 < (s.size : Int)) = false := decide_eq_false (by omega)
      rw [decide_eq_true h24, Bool.true_and] at hw
      have hS := Lib.hid h24
      clear h24
      generalize hK : ((s[0].toNat : Nat) : Int) = d at hw
      cases hl : lett d
      · rw [hl, Bool.false_and] at hw
        rw [hw]
        unfold lett at hl
        rw [decide_eq_false_iff_not] at hl
        by_cases p1 : d < 97
        · have q3 : decide (d < 97) = true := decide_eq_true p1
          clear hl p1
          go_enter Tryz.func70, Tryz.ntmps70
          go_wp2_with fail
          go_ret
          exact ⟨rfl, rfl⟩
        · have q3 : decide (d < 97) = false := decide_eq_false p1
          have q4 : decide (122 < d) = true := decide_eq_true (by omega)
          clear hl p1
          go_enter Tryz.func70, Tryz.ntmps70
          go_wp2_with fail
          go_ret
          exact ⟨rfl, rfl⟩
      · rw [hl, Bool.true_and] at hw
        have H := Lib.hid hw
        unfold lett at hl
        rw [decide_eq_true_eq] at hl
        have q3 : decide (d < 97) = false := decide_eq_false (by omega)
        have q4 : decide (122 < d) = false := decide_eq_false (by omega)
        clear hw hl
        go_enter Tryz.func70, Tryz.ntmps70
        go_wp2_with fail
        go_loopw [3] (fun vi wr => ∃ j : Nat, vi = .int .i64 (j : Nat) ∧ j ≤ s.size ∧ Hid (word s = (s.data.toList.drop j).all wch) ∧ w = wr) (fun vi _ => s.size - (intOf vi).toNat)
        case atStart => exact ⟨0, rfl, by omega, H, rfl⟩
        case round =>
          obtain ⟨j, rfl, hj, hd, rfl⟩ := hrel
          clear H
          by_cases hc : j < s.size
          · have hst := hd.out
            rw [wch_at s hc, wch_is] at hst
            have q5 : decide ((j : Int) < (s.size : Int)) = true := decide_eq_true (by omega)
            have f4 := Lib.hid (next_at (j := j) (by have := hS.out; omega))
            generalize hJ : ((s[j].toNat : Nat) : Int) = c at hst
            have H := Lib.hid hst
            clear hd hst q1 q2 q3 q4 hK
            go_wp2_with fail
            all_goals first
              | (go_ret; refine ⟨ret_bool ?_, rfl⟩; rw [H.out, wf_false (by omega) (by omega) (by first | omega | simp_all), Bool.false_and])
              | (refine ⟨⟨j + 1, congrArg (Value.int .i64) f4.out, hc, Lib.hid ?_, trivial⟩, less_at hc f4.out⟩; rw [H.out, wf_true (by first | omega | (simp_all; done) | (simp_all; omega)), Bool.true_and])
          · have hst := hd.out
            rw [wch_end s (by omega)] at hst
            have H := Lib.hid hst
            clear hst hd
            have q3 : decide ((j : Int) < (s.size : Int)) = false := decide_eq_false (by omega)
            go_wp2_with fail
            go_ret
            exact ⟨ret_bool H.out.symm, rfl⟩
    · rw [decide_eq_false h24, Bool.false_and] at hw
      have q2 : decide (24 < (s.size : Int)) = true := decide_eq_true (by omega)
      rw [hw]
      go_enter Tryz.func70, Tryz.ntmps70
      go_wp2_with fail
      go_ret
      exact ⟨rfl, rfl⟩
end Go.Proofs.YtbkpjhffmaldmaaGreatDoor.un

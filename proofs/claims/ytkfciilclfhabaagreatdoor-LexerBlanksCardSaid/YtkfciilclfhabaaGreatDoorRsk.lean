/-
  The reference: blanks, what is skipped, digits, great integers.
-/
import Derived.Test.YtkfciilclfhabaaGreatDoorRwd
namespace Go.Proofs.YtkfciilclfhabaaGreatDoor
open Go.RowKit dec

theorem rblank_any (c : UInt8) (w : World) : Calls Tryz.prog 53 #[.int .u8 (c.toNat : Int)] w fun e w' => e = .returned (.bool (isB c)) ∧ w' = w := by
  have hb : isB c = (((c.toNat : Int) == 9) || ((c.toNat : Int) == 10) || ((c.toNat : Int) == 13) || ((c.toNat : Int) == 32)) := by
    unfold isB
    simp only [eqb]
    congr 1
    congr 1
    congr 1
    all_goals (rw [decide_eq_decide]; omega)
  rw [hb]
  clear hb
  generalize (c.toNat : Int) = x
  cases h1 : (x == 9)
  all_goals cases h2 : (x == 10)
  all_goals cases h3 : (x == 13)
  all_goals cases h4 : (x == 32)
  all_goals (
    go_enter Tryz.func53, Tryz.ntmps53
    go_wp2_with fail
    go_ret
    exact ⟨rfl, rfl⟩)
/-- One byte of what is skipped. -/
theorem sk_case (s : ByteArray) {j R : Nat} {m : Bool} (hj : j < s.size) (h : j + sk m (s.data.toList.drop j) = R) {p bl h5 : Bool} (hp : isC s[j] = p) (hb : isB s[j] = bl) (hh : decide (s[j].toNat = 35) = h5) :
    (((m && p) || bl || h5) = true ∧ (j + 1) + sk (p && (m || h5)) (s.data.toList.drop (j + 1)) = R) ∨ (((m && p) || bl || h5) = false ∧ j = R) := by
  rw [at_drop s hj, sk_cons, hp, hb, hh] at h
  cases hc : ((m && p) || bl || h5)
  · right
    rw [hc] at h
    exact ⟨rfl, by simpa using h⟩
  · left
    rw [hc] at h
    simp only [if_true] at h
    exact ⟨rfl, by omega⟩
theorem sk_fin (s : ByteArray) {j : Nat} (m : Bool) (h : s.size ≤ j) : sk m (s.data.toList.drop j) = 0 := by
  rw [List.drop_eq_nil_of_le (by rw [str_len]; exact h)]
  rfl
set_option maxRecDepth 100000 in
set_option maxHeartbeats 8000000 in
theorem rskip_any (a0 : Option Addr) (n0 cap : Nat) (s : ByteArray) (hs : s.size ≤ 1048576) (i : Nat) (hi : i ≤ s.size) (w : World) (hS : Bs w a0 n0 cap s) :
    Calls Tryz.prog 29 #[.slice a0 n0 cap, .int .i64 (i : Nat)] w fun e w' => e = .returned (.int .i64 (i + sk false (s.data.toList.drop i) : Nat)) ∧ w' = w := by
  have hn0 := hS.hn
  subst hn0
  have S0 := Lib.hid hS
  have Z0 := Lib.hid hs
  obtain ⟨R, hR⟩ : ∃ R, i + sk false (s.data.toList.drop i) = R := ⟨_, rfl⟩
  rw [hR]
  replace hR := Lib.hid hR
  replace hi := Lib.hid hi
  clear hS hs
  go_enter Tryz.func29, Tryz.ntmps29
  go_wp2_with fail
  go_loopw [1, 5] (fun vj vm wr => ∃ (j : Nat) (m : Bool), vj = .int .i64 (j : Nat) ∧ vm = .bool m ∧ Hid (j ≤ s.size) ∧ Hid (j + sk m (s.data.toList.drop j) = R) ∧ wr = w) (fun vj _ _ => s.size - (intOf vj).toNat)
  case atStart => exact ⟨i, false, rfl, rfl, hi, hR, rfl⟩
  case round =>
    obtain ⟨j, m, rfl, rfl, hj, hr, rfl⟩ := hrel
    by_cases hc : j < s.size
    · have q2 : decide ((j : Int) < (s.size : Int)) = true := decide_eq_true (by omega)
      have f4 := Lib.hid (next_at (j := j) (by have := Z0.out; omega))
      obtain ⟨b, off, rfl, hB⟩ := S0.out.at hc
      have BC := Lib.hid (rblank_any s[j] wr)
      obtain ⟨p, hp⟩ : ∃ p, isC s[j] = p := ⟨_, rfl⟩
      obtain ⟨bl, hb⟩ : ∃ p, isB s[j] = p := ⟨_, rfl⟩
      obtain ⟨h5, hh⟩ : ∃ p, decide (s[j].toNat = 35) = p := ⟨_, rfl⟩
      have hcs := sk_case s hc hr.out hp hb hh
      have e1 : (((s[j].toNat : Nat) : Int) != 10) = p := by
        rw [← hp]; unfold isC; rw [bne, eqb]; congr 1; rw [decide_eq_decide]; omega
      have e2 : (((s[j].toNat : Nat) : Int) == 35) = h5 := by
        rw [← hh, eqb, decide_eq_decide]; omega
      rw [hb] at BC
      clear hp hb hh hr hj
      generalize ((s[j].toNat : Nat) : Int) = x at *
      replace hc := Lib.hid hc
      cases m
      all_goals cases p
      all_goals cases bl
      all_goals cases h5
      all_goals rcases hcs with ⟨hh, hn⟩ | ⟨hh, hn⟩
      all_goals first | (exfalso; revert hh; decide) | skip
      all_goals (
        clear hh
        replace hn := Lib.hid hn
        go_wp2_with (go_at_call 53; refine (BC.out).mono ?_; rintro e w' ⟨rfl, rfl⟩))
      all_goals first
        | exact ⟨⟨j + 1, _, by first | exact congrArg (Value.int .i64) f4.out | rfl, rfl, hc, hn, trivial⟩, by first | exact less_at hc.out f4.out | exact less_dn2 hc.out⟩
        | (go_ret; exact ⟨retN hn.out, rfl⟩)
    · have q2 : decide ((j : Int) < (s.size : Int)) = false := decide_eq_false (by omega)
      have hz := sk_fin s (j := j) m (by omega)
      have HD : Hid (j = R) := by unfold Hid; rw [← hr.out, hz, Nat.add_zero]
      clear hz hr hj
      go_wp2_with fail
      go_ret
      exact ⟨retN HD.out, rfl⟩
set_option maxRecDepth 100000 in
set_option maxHeartbeats 4000000 in
theorem rdigits_any (a0 : Option Addr) (n0 cap : Nat) (s : ByteArray) (hs : s.size ≤ 1048576) (i : Nat) (hi : i ≤ s.size) (w : World) (hS : Bs w a0 n0 cap s) :
    Calls Tryz.prog 84 #[.slice a0 n0 cap, .int .i64 (i : Nat)] w fun e w' => e = .returned (.int .i64 (run isD (s.data.toList.drop i) : Nat)) ∧ w' = w := by
  have hn0 := hS.hn
  subst hn0
  have S0 := Lib.hid hS
  have Z0 := Lib.hid hs
  have I0 := Lib.hid hi
  obtain ⟨R, hR⟩ : ∃ R, run isD (s.data.toList.drop i) = R := ⟨_, rfl⟩
  rw [hR]
  replace hR := Lib.hid hR
  clear hS hs hi
  go_enter Tryz.func84, Tryz.ntmps84
  go_wp2_with fail
  go_loopw [5] (fun x wr => ∃ j : Nat, x = .int .i64 (j : Nat) ∧ Hid (i + j ≤ s.size) ∧ Hid (j + run isD (s.data.toList.drop (i + j)) = R) ∧ wr = w) (fun x _ => s.size - (intOf x).toNat)
  case atStart => exact ⟨0, rfl, Lib.hid I0.out, Lib.hid (by rw [Nat.add_zero, Nat.zero_add]; exact hR.out), rfl⟩
  case round =>
    obtain ⟨j, rfl, hj, hr, rfl⟩ := hrel
    have f1 : wrap64 ((i : Int) + (j : Int)) = ((i + j : Nat) : Int) := by have := Z0.out; have := hj.out; unfold wrap64; omega
    by_cases hc : i + j < s.size
    · have q2 : decide (((i + j : Nat) : Int) < (s.size : Int)) = true := decide_eq_true (by omega)
      have q3 : i + j < s.size := hc
      have hjs : j < s.size := by omega
      have f4 := Lib.hid (next_at (j := j) (by have := Z0.out; omega))
      obtain ⟨b, off, rfl, hB⟩ := S0.out.at hc
      have DC := Lib.hid (rdigit_any s[i + j] wr)
      obtain ⟨x, hx⟩ : ∃ x, ((s[i + j].toNat : Nat) : Int) = x := ⟨_, rfl⟩
      have hst := run_drop isD s hc
      have hr2 := hr.out
      rw [hst] at hr2
      obtain ⟨d, hd⟩ : ∃ d, isD s[i + j] = d := ⟨_, rfl⟩
      rw [hd, hx] at DC
      rw [hd] at hr2
      rw [hx] at hB
      clear hst hr hd hx hj hc
      cases d
      · have HD := Lib.hid (show j = R by simpa using hr2)
        clear hr2
        go_wp2_with (go_at_call 55; refine (DC.out).mono ?_; rintro e w' ⟨rfl, rfl⟩)
        go_ret
        exact ⟨retN HD.out, rfl⟩
      · have hn := Lib.hid (show j + 1 + run isD (s.data.toList.drop (i + (j + 1))) = R by rw [← hr2, if_pos rfl, Nat.add_assoc i j 1]; omega)
        clear hr2
        go_wp2_with (go_at_call 55; refine (DC.out).mono ?_; rintro e w' ⟨rfl, rfl⟩)
        exact ⟨⟨j + 1, by first | exact congrArg (Value.int .i64) f4.out | rfl, Lib.hid q3, hn, trivial⟩, by first | exact less_at hjs f4.out | exact less_dn2 hjs⟩
    · have q2 : decide (((i + j : Nat) : Int) < (s.size : Int)) = false := decide_eq_false (by omega)
      have q3 : decide (i + j < s.size) = false := decide_eq_false hc
      have hz := run_out isD s (j := i + j) (by omega)
      have HD : Hid (j = R) := by unfold Hid; rw [← hr.out, hz, Nat.add_zero]
      clear hz hr hj
      go_wp2_with fail
      go_ret
      exact ⟨retN HD.out, rfl⟩
end Go.Proofs.YtkfciilclfhabaaGreatDoor

/-
  The reference: letters, digits, words, keywords, names.
-/
import Derived.Test.YtkfciilclfhabaaGreatDoorByt
namespace Go.Proofs.YtkfciilclfhabaaGreatDoor
open Go.RowKit dec

/-- Bytes between two. -/
theorem btw_cases (lo hi : Nat) (c : UInt8) (b : Bool) (h : (decide (lo ≤ c.toNat) && decide (c.toNat ≤ hi)) = b) :
    (decide ((lo : Int) ≤ (c.toNat : Int)) = false ∧ b = false) ∨ (decide ((lo : Int) ≤ (c.toNat : Int)) = true ∧ decide ((c.toNat : Int) ≤ (hi : Int)) = b) := by
  by_cases h1 : lo ≤ c.toNat
  · right
    refine ⟨decide_eq_true (by omega), ?_⟩
    rw [decide_eq_true h1, Bool.true_and] at h
    rw [← h, decide_eq_decide]
    omega
  · left
    rw [decide_eq_false h1, Bool.false_and] at h
    exact ⟨decide_eq_false (by omega), h.symm⟩
set_option maxRecDepth 100000 in
theorem rletter_any (c : UInt8) (w : World) : Calls Tryz.prog 83 #[.int .u8 (c.toNat : Int)] w fun e w' => e = .returned (.bool (isL c)) ∧ w' = w := by
  obtain ⟨b, hb⟩ : ∃ b, isL c = b := ⟨_, rfl⟩
  rw [hb]
  have H := btw_cases 97 122 c b hb
  clear hb
  generalize (c.toNat : Int) = x at *
  rcases H with ⟨q1, rfl⟩ | ⟨q1, q2⟩
  · replace q1 : decide (97 ≤ x) = false := q1
    go_enter Tryz.func83, Tryz.ntmps83
    go_wp2_with fail
    go_ret
    exact ⟨rfl, rfl⟩
  · replace q1 : decide (97 ≤ x) = true := q1
    replace q2 : decide (x ≤ 122) = b := q2
    go_enter Tryz.func83, Tryz.ntmps83
    go_wp2_with fail
    go_ret
    exact ⟨rfl, rfl⟩
set_option maxRecDepth 100000 in
theorem rdigit_any (c : UInt8) (w : World) : Calls Tryz.prog 55 #[.int .u8 (c.toNat : Int)] w fun e w' => e = .returned (.bool (isD c)) ∧ w' = w := by
  obtain ⟨b, hb⟩ : ∃ b, isD c = b := ⟨_, rfl⟩
  rw [hb]
  have H := btw_cases 48 57 c b hb
  clear hb
  generalize (c.toNat : Int) = x at *
  rcases H with ⟨q1, rfl⟩ | ⟨q1, q2⟩
  · replace q1 : decide (48 ≤ x) = false := q1
    go_enter Tryz.func55, Tryz.ntmps55
    go_wp2_with fail
    go_ret
    exact ⟨rfl, rfl⟩
  · replace q1 : decide (48 ≤ x) = true := q1
    replace q2 : decide (x ≤ 57) = b := q2
    go_enter Tryz.func55, Tryz.ntmps55
    go_wp2_with fail
    go_ret
    exact ⟨rfl, rfl⟩
/-- How many bytes has the word that begins at an offset? -/
def wdN (l : List UInt8) : Nat := match l with
  | [] => 0
  | c :: r => if isL c = true then run isW (c :: r) else 0
theorem Bs.at {w : World} {a : Option Addr} {n cap : Nat} {s : ByteArray} (h : Bs w a n cap s) {j : Nat} (hj : j < s.size) : ∃ b off, a = some ⟨b, off, none⟩ ∧ w.cell? ⟨b, off + j, none⟩ = some (.int .u8 (s[j].toNat : Int)) := by
  rcases h.hat with h0 | ⟨b, off, e, hB⟩
  · omega
  · exact ⟨b, off, e, hB j hj⟩
theorem wd_drop (s : ByteArray) {i : Nat} (h : i < s.size) : wdN (s.data.toList.drop i) = if isL s[i] = true then run isW (s.data.toList.drop (i + 1)) + 1 else 0 := by
  rw [List.drop_eq_getElem_cons (by rw [str_len]; exact h)]
  show (if isL s[i] = true then run isW (s[i] :: s.data.toList.drop (i + 1)) else 0) = _
  by_cases h1 : isL s[i] = true
  · rw [if_pos h1, if_pos h1, run_cons (isW_L h1)]
  · rw [if_neg h1, if_neg h1]
theorem isW_eq (c : UInt8) : isW c = (isL c || (isD c || ((c.toNat : Int) == 95))) := by
  unfold isW
  rw [Bool.or_assoc]
  congr 2
  rw [eqb, decide_eq_decide]
  omega
theorem isW_cases {s : ByteArray} {i j R : Nat} (hc : i + j < s.size) (h : j + run isW (s.data.toList.drop (i + j)) = R) {x : Int} (hx : ((s[i + j].toNat : Nat) : Int) = x) :
    (∃ l d, isL s[i + j] = l ∧ isD s[i + j] = d ∧ ((l = true ∨ (l = false ∧ d = true) ∨ (l = false ∧ d = false ∧ (x == 95) = true)) ∧ j + 1 + run isW (s.data.toList.drop (i + (j + 1))) = R ∨ (l = false ∧ d = false ∧ (x == 95) = false) ∧ j = R)) := by
  refine ⟨_, _, rfl, rfl, ?_⟩
  have hst := run_drop isW s hc
  rw [isW_eq, hx] at hst
  rw [hst] at h
  generalize isL s[i + j] = l at h ⊢
  generalize isD s[i + j] = d at h ⊢
  cases l
  · cases d
    · cases hq : (x == 95)
      · right
        rw [hq] at h
        exact ⟨⟨rfl, rfl, rfl⟩, by simpa using h⟩
      · left
        rw [hq] at h
        exact ⟨.inr (.inr ⟨rfl, rfl, rfl⟩), by simp only [Bool.or_true, if_true] at h; rw [← Nat.add_assoc] ; omega⟩
    · left
      exact ⟨.inr (.inl ⟨rfl, rfl⟩), by simp only [Bool.true_or, Bool.or_true, if_true] at h; rw [← Nat.add_assoc]; omega⟩
  · left
    exact ⟨.inl rfl, by simp only [Bool.true_or, if_true] at h; rw [← Nat.add_assoc]; omega⟩
set_option maxRecDepth 100000 in
set_option maxHeartbeats 4000000 in
theorem rword_any (a0 : Option Addr) (n0 cap : Nat) (s : ByteArray) (hs : s.size ≤ 1048576) (i : Nat) (hi : i < s.size) (w : World) (hS : Bs w a0 n0 cap s) :
    Calls Tryz.prog 54 #[.slice a0 n0 cap, .int .i64 (i : Nat)] w fun e w' => e = .returned (.int .i64 (wdN (s.data.toList.drop i) : Nat)) ∧ w' = w := by
  have hn0 := hS.hn
  subst hn0
  have S0 := Lib.hid hS
  have Z0 := Lib.hid hs
  have I0 := Lib.hid hi
  obtain ⟨b, off, rfl, hB⟩ := hS.at hi
  obtain ⟨R, hR⟩ : ∃ R, wdN (s.data.toList.drop i) = R := ⟨_, rfl⟩
  have HW := wd_drop s hi
  rw [hR] at HW ⊢
  have LC := Lib.hid (rletter_any (s[i]'hi) w)
  clear hS hs
  by_cases hl : isL (s[i]'hi) = true
  · rw [if_pos hl] at HW
    rw [hl] at LC
    have hR := Lib.hid (show 1 + run isW (s.data.toList.drop (i + 1)) = R by omega)
    clear HW hl
    go_enter Tryz.func54, Tryz.ntmps54
    go_wp2_with fail
    refine LC.out.mono ?_
    rintro e w1 ⟨rfl, hw⟩
    obtain rfl : w = w1 := hw.symm
    clear hB LC
    go_wp2_with fail
    go_loopw [5] (fun x wr => ∃ j : Nat, x = .int .i64 (j : Nat) ∧ Hid (i + j ≤ s.size) ∧ Hid (j + run isW (s.data.toList.drop (i + j)) = R) ∧ wr = w) (fun x _ => s.size - (intOf x).toNat)
    case atStart => exact ⟨1, rfl, Lib.hid I0.out, hR, rfl⟩
    case round =>
      obtain ⟨j, rfl, hj, hr, rfl⟩ := hrel
      have f1 : wrap64 ((i : Int) + (j : Int)) = ((i + j : Nat) : Int) := by have := Z0.out; have := hj.out; unfold wrap64; omega
      by_cases hc : i + j < s.size
      · have q2 : decide (((i + j : Nat) : Int) < (s.size : Int)) = true := decide_eq_true (by omega)
        have q3 : i + j < s.size := hc
        have hjs : j < s.size := by omega
        have f4 := Lib.hid (next_at (j := j) (by have := Z0.out; omega))
        obtain ⟨b', off', hab, hB⟩ := S0.out.at hc
        cases hab
        have LC := Lib.hid (rletter_any s[i + j] wr)
        have DC := Lib.hid (rdigit_any s[i + j] wr)
        obtain ⟨x, hx⟩ : ∃ x, ((s[i + j].toNat : Nat) : Int) = x := ⟨_, rfl⟩
        obtain ⟨l, d, hl, hd, hcs⟩ := isW_cases hc hr.out hx
        rw [hl, hx] at LC
        rw [hd, hx] at DC
        rw [hx] at hB
        clear hl hd hx hr hj hc
        rcases hcs with ⟨rfl | ⟨rfl, rfl⟩ | ⟨rfl, rfl, q5⟩, hn⟩ | ⟨⟨rfl, rfl, q5⟩, hn⟩
        · replace hn := Lib.hid hn
          clear DC
          go_wp2_with (go_at_call 83; refine (LC.out).mono ?_; rintro e w' ⟨rfl, rfl⟩)
          exact ⟨⟨j + 1, by first | exact congrArg (Value.int .i64) f4.out | rfl, Lib.hid q3, hn, trivial⟩, by first | exact less_at hjs f4.out | exact less_dn2 hjs⟩
        · replace hn := Lib.hid hn
          go_wp2_with (first | (go_at_call 83; refine (LC.out).mono ?_; rintro e w' ⟨rfl, rfl⟩) | (go_at_call 55; refine (DC.out).mono ?_; rintro e w' ⟨rfl, rfl⟩))
          exact ⟨⟨j + 1, by first | exact congrArg (Value.int .i64) f4.out | rfl, Lib.hid q3, hn, trivial⟩, by first | exact less_at hjs f4.out | exact less_dn2 hjs⟩
        · replace hn := Lib.hid hn
          go_wp2_with (first | (go_at_call 83; refine (LC.out).mono ?_; rintro e w' ⟨rfl, rfl⟩) | (go_at_call 55; refine (DC.out).mono ?_; rintro e w' ⟨rfl, rfl⟩))
          exact ⟨⟨j + 1, by first | exact congrArg (Value.int .i64) f4.out | rfl, Lib.hid q3, hn, trivial⟩, by first | exact less_at hjs f4.out | exact less_dn2 hjs⟩
        · replace hn := Lib.hid hn
          go_wp2_with (first | (go_at_call 83; refine (LC.out).mono ?_; rintro e w' ⟨rfl, rfl⟩) | (go_at_call 55; refine (DC.out).mono ?_; rintro e w' ⟨rfl, rfl⟩))
          go_ret
          exact ⟨retN hn.out, rfl⟩
      · have q2 : decide (((i + j : Nat) : Int) < (s.size : Int)) = false := decide_eq_false (by omega)
        have q3 : decide (i + j < s.size) = false := decide_eq_false hc
        have hz := run_out isW s (j := i + j) (by omega)
        have HD : Hid (j = R) := by unfold Hid; rw [← hr.out, hz, Nat.add_zero]
        clear hz hr hj
        go_wp2_with fail
        go_ret
        exact ⟨retN HD.out, rfl⟩
  · rw [if_neg hl] at HW
    rw [Bool.not_eq_true] at hl
    rw [hl] at LC
    have hR := Lib.hid HW
    clear HW hl
    go_enter Tryz.func54, Tryz.ntmps54
    go_wp2_with fail
    refine LC.out.mono ?_
    rintro e w1 ⟨rfl, hw⟩
    obtain rfl : w = w1 := hw.symm
    clear hB LC
    go_wp2_with fail
    go_ret
    exact ⟨retN hR.out.symm, rfl⟩
end Go.Proofs.YtkfciilclfhabaaGreatDoor

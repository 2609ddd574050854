/-
  decimal.Parse for every string: what its digits and its point say, as a plain function.
-/
import Derived.Test.YtgfigcjbfigmiaaDoorDec
import Derived.Test.YtgfigcjbfigmiaaDoorShelf
import Derived.WalkSmall
import Derived.Lib.LaidTab
import Derived.WalkMore
import Derived.Deep.LoopGhost
namespace Go.Proofs.YtgfigcjbfigmiaaDoor
open Go.RowKit Go.Shelf

/-- decimal.withDigit. -/
def wd (n d : Int) : Int := if 115292150460684697 < n then 1152921504606846977 else 10 * n + d
theorem wd_range {n d : Int} (n0 : 0 ≤ n) (d0 : 0 ≤ d) (d9 : d ≤ 9) : 0 ≤ wd n d ∧ wd n d ≤ 1152921504606846979 := by unfold wd; split <;> omega
theorem withDigit_any (n d : Int) (w : World) (n0 : 0 ≤ n) (d0 : 0 ≤ d) (d9 : d ≤ 9) :
    Calls Tryd.prog 57 #[.int .i64 n, .int .i64 d] w fun e w' => e = .returned (.int .i64 (wd n d)) ∧ w = w' := by
  by_cases h : 115292150460684697 < n
  · have e : Hid (wd n d = 1152921504606846977) := if_pos h
    go_enter Tryd.func57, Tryd.ntmps57
    go_wp2
    go_ret
    exact ⟨by rw [e.out]; rfl, rfl⟩
  · have e : Hid (wd n d = 10 * n + d) := if_neg h
    go_enter Tryd.func57, Tryd.ntmps57
    go_wp2
    go_ret
    exact ⟨by rw [e.out]; rfl, rfl⟩

/-- The byte at a place, as a number; 0 beyond the end. -/
def byteAt (l : List UInt8) (i : Nat) : Int := ((l.getD i 0).toNat : Int)
/-- The loop of decimal.readDigits, from the place i on: where it ends, the number, and the point's place (the length while there is none). -/
def rd (l : List UInt8) : Nat → Nat → Int → Nat → Nat × Int × Nat
  | 0, i, n, p => (i, n, p)
  | k + 1, i, n, p =>
    if i < l.length then
      if 48 ≤ byteAt l i ∧ byteAt l i ≤ 57 then rd l k (i + 1) (wd n (byteAt l i - 48)) p
      else if byteAt l i = 46 ∧ p = l.length then rd l k (i + 1) n i
      else (i, n, p)
    else (i, n, p)
/-- What decimal.readDigits answers: the number, the digits behind the point, and whether the string is a decimal. -/
def rdEnd (len : Nat) (r : Nat × Int × Nat) : Int × Int × Bool :=
  if r.1 < len ∨ r.2.2 = 0 then (0, 0, false)
  else if r.2.2 = len then (r.2.1, 0, true)
  else if (len : Int) - r.2.2 - 1 < 1 ∨ 6 < (len : Int) - r.2.2 - 1 then (0, 0, false)
  else (r.2.1, (len : Int) - r.2.2 - 1, true)
def rdAll (l : List UInt8) : Int × Int × Bool := rdEnd l.length (rd l l.length 0 0 l.length)

theorem byteAt_eq (s : ByteArray) (i : Nat) (hi : i < s.size) : ((s[i]'hi).toNat : Int) = byteAt s.data.toList i := by
  unfold byteAt
  rw [← Lib.getD_at s i hi]
theorem byteAt_range (l : List UInt8) (i : Nat) : 0 ≤ byteAt l i ∧ byteAt l i ≤ 255 := by
  unfold byteAt
  have := UInt8.toNat_lt (l.getD i 0)
  omega

theorem rd_digit {l : List UInt8} {N i p : Nat} {n : Int} (hN : l.length = N) (h : i < N) (h1 : 48 ≤ byteAt l i) (h2 : byteAt l i ≤ 57) :
    rd l (N - i) i n p = rd l (N - (i + 1)) (i + 1) (wd n (byteAt l i - 48)) p := by
  obtain ⟨k, hk⟩ : ∃ k, N - i = k + 1 := ⟨N - i - 1, by omega⟩
  have hk' : N - (i + 1) = k := by omega
  rw [hk, hk', rd, if_pos (by omega), if_pos ⟨h1, h2⟩]
theorem rd_point {l : List UInt8} {N i p : Nat} {n : Int} (hN : l.length = N) (h : i < N) (h1 : byteAt l i = 46) (h2 : p = N) :
    rd l (N - i) i n p = rd l (N - (i + 1)) (i + 1) n i := by
  obtain ⟨k, hk⟩ : ∃ k, N - i = k + 1 := ⟨N - i - 1, by omega⟩
  have hk' : N - (i + 1) = k := by omega
  rw [hk, hk', rd, if_pos (by omega), if_neg (by omega), if_pos ⟨h1, by omega⟩]
theorem rd_stop {l : List UInt8} {N i p : Nat} {n : Int} (hN : l.length = N) (h : i < N) (h1 : ¬ (48 ≤ byteAt l i ∧ byteAt l i ≤ 57)) (h2 : ¬ (byteAt l i = 46 ∧ p = N)) :
    rd l (N - i) i n p = (i, n, p) := by
  obtain ⟨k, hk⟩ : ∃ k, N - i = k + 1 := ⟨N - i - 1, by omega⟩
  rw [hk, rd, if_pos (by omega), if_neg h1, if_neg (by omega)]
theorem rd_done {l : List UInt8} {N i p : Nat} {n : Int} (h : N ≤ i) : rd l (N - i) i n p = (i, n, p) := by
  rw [show N - i = 0 by omega, rd]

set_option maxHeartbeats 1000000 in
theorem readDigits_any (s : ByteArray) (w : World) (hs : s.size ≤ 9223372036854775806) :
    Calls Tryd.prog 52 #[.string s] w fun e w' =>
      e = .returned (.tuple #[.int .i64 (rdAll s.data.toList).1, .int .i64 (rdAll s.data.toList).2.1, .bool (rdAll s.data.toList).2.2]) ∧ w = w' := by
  have hlen : s.data.toList.length = s.size := by rw [Lib.size_eq]
  obtain ⟨R, hR⟩ : ∃ R, R = rd s.data.toList s.size 0 0 s.size := ⟨_, rfl⟩
  have hall : Hid (rdAll s.data.toList = rdEnd s.size R) := by unfold Hid rdAll; rw [hlen, hR]
  have HL := Lib.hid hlen
  have HR := Lib.hid hR
  clear hlen hR
  go_enter Tryd.func52, Tryd.ntmps52
  go_wp2
  go_step3
  go_wp2
  go_step3
  go_upto_block 0 with fail
  go_cut [2, 5, 6] (fun vn vp vi wx => ∃ (i p : Nat) (n : Int), i ≤ s.size ∧ p ≤ s.size ∧ 0 ≤ n ∧ n ≤ 1152921504606846979 ∧ vn = .int .i64 n ∧ vp = .int .i64 p ∧ vi = .int .i64 i ∧ Hid (R = (i, n, p)) ∧ wx = w)
  case first =>
    go_wp2
    go_loop [2, 5, 6] (fun vn vp vi => ∃ (i p : Nat) (n : Int), i ≤ s.size ∧ p ≤ s.size ∧ 0 ≤ n ∧ n ≤ 1152921504606846979 ∧ vn = .int .i64 n ∧ vp = .int .i64 p ∧ vi = .int .i64 i ∧ Hid (R = rd s.data.toList (s.size - i) i n p)) (fun _ _ vi => s.size - (intOf vi).toNat)
    case atStart => exact ⟨0, s.size, 0, by omega, by omega, by omega, by omega, rfl, rfl, rfl, by unfold Hid; rw [HR.out]; rfl⟩
    case round =>
      obtain ⟨i, p, n, hi, hp, n0, n1, rfl, rfl, rfl, hrd⟩ := hrel
      by_cases hl : i < s.size
      · obtain ⟨c, hc⟩ : ∃ c, c = byteAt s.data.toList i := ⟨_, rfl⟩
        have hX : ∀ w, (Instr.index 9 (.string s) (.int .i64 (i : Int))).run Tryd.prog w = .ok (.int .u8 c) w := fun w => by
          rw [run_index_string w _ s .i64 _ Tryd.underlying9, dif_pos ⟨by omega, by omega⟩, hc, ← byteAt_eq s i hl]
          rfl
        have hr := byteAt_range s.data.toList i
        rw [← hc] at hr
        obtain ⟨r0, r1⟩ := hr
        have HC := Lib.hid hc
        clear hc
        by_cases c1 : 48 ≤ c
        · by_cases c2 : c ≤ 57
          · have HD : Hid (R = rd s.data.toList (s.size - (i + 1)) (i + 1) (wd n (c - 48)) p) := by
              unfold Hid; rw [hrd.out, rd_digit HL.out hl (by rw [← HC.out]; exact c1) (by rw [← HC.out]; exact c2), ← HC.out]
            have hw := wd_range (n := n) (d := c - 48) n0 (by omega) (by omega)
            have c1' : decide (48 ≤ c) = true := by simpa using c1
            have c2' : decide (c ≤ 57) = true := by simpa using c2
            go_wp2_with (go_at_call 57; refine (withDigit_any n (c - 48) _ n0 (by omega) (by omega)).mono ?_; rintro e w' ⟨rfl, rfl⟩)
            exact ⟨⟨i + 1, p, wd n (c - 48), by omega, hp, hw.1, hw.2, rfl, rfl, by congr 1, HD⟩, by simp [intOf]; omega⟩
          · have HD : Hid (R = (i, n, p)) := by
              unfold Hid; rw [hrd.out, rd_stop HL.out hl (by rw [← HC.out]; omega) (by rw [← HC.out]; omega)]
            have c1' : decide (48 ≤ c) = true := by simpa using c1
            have c2' : decide (c ≤ 57) = false := by simp; omega
            have c3' : (c == 46) = false := by rw [beq_eq_false_iff_ne]; omega
            go_wp2
            go_meet
            exact ⟨i, p, n, hi, hp, n0, n1, rfl, rfl, rfl, HD, rfl⟩
        · have c1' : decide (48 ≤ c) = false := by simp; omega
          by_cases c3 : c = 46
          · by_cases c4 : p = s.size
            · have HD : Hid (R = rd s.data.toList (s.size - (i + 1)) (i + 1) n i) := by
                unfold Hid; rw [hrd.out, rd_point HL.out hl (by rw [← HC.out]; exact c3) c4]
              subst c3
              subst c4
              go_wp2
              exact ⟨⟨i + 1, i, n, by omega, by omega, n0, n1, rfl, rfl, by congr 1, HD⟩, by simp [intOf]; omega⟩
            · have HD : Hid (R = (i, n, p)) := by
                unfold Hid; rw [hrd.out, rd_stop HL.out hl (by rw [← HC.out]; omega) (by rw [← HC.out]; omega)]
              have c4' : ((p : Int) == (s.size : Int)) = false := by rw [beq_eq_false_iff_ne]; omega
              subst c3
              go_wp2
              go_meet
              exact ⟨i, p, n, hi, hp, n0, n1, rfl, rfl, rfl, HD, rfl⟩
          · have HD : Hid (R = (i, n, p)) := by
              unfold Hid; rw [hrd.out, rd_stop HL.out hl (by rw [← HC.out]; omega) (by rw [← HC.out]; omega)]
            have c3' : (c == 46) = false := by rw [beq_eq_false_iff_ne]; omega
            go_wp2
            go_meet
            exact ⟨i, p, n, hi, hp, n0, n1, rfl, rfl, rfl, HD, rfl⟩
      · have HD : Hid (R = (i, n, p)) := by
          unfold Hid; rw [hrd.out, rd_done (by omega)]
        go_wp2
        go_meet
        exact ⟨i, p, n, hi, hp, n0, n1, rfl, rfl, rfl, HD, rfl⟩
  case rest =>
    obtain ⟨i, p, n, hi, hp, n0, n1, rfl, rfl, rfl, hR, rfl⟩ := hcut
    have hall2 : Hid (rdAll s.data.toList = rdEnd s.size (i, n, p)) := by unfold Hid; rw [hall.out, hR.out]
    clear hall hR HR HL
    by_cases d1 : i < s.size
    · have E : Hid (rdAll s.data.toList = (0, 0, false)) := by unfold Hid; rw [hall2.out]; unfold rdEnd; rw [if_pos (.inl d1)]
      go_wp2
      try rw [Exit.noGoto_ret]
      go_ret3
      exact ⟨by rw [E.out]; rfl, rfl⟩
    · by_cases d2 : p = 0
      · have E : Hid (rdAll s.data.toList = (0, 0, false)) := by unfold Hid; rw [hall2.out]; unfold rdEnd; rw [if_pos (.inr d2)]
        subst d2
        go_wp2
        try rw [Exit.noGoto_ret]
        go_ret3
        exact ⟨by rw [E.out]; rfl, rfl⟩
      · have d2' : ((p : Int) == 0) = false := by rw [beq_eq_false_iff_ne]; omega
        by_cases d3 : p = s.size
        · have E : Hid (rdAll s.data.toList = (n, 0, true)) := by unfold Hid; rw [hall2.out]; unfold rdEnd; rw [if_neg (by simp only; omega), if_pos d3]
          subst d3
          go_wp2
          try rw [Exit.noGoto_ret]
          go_ret3
          exact ⟨by rw [E.out]; rfl, rfl⟩
        · have d3' : ((p : Int) == (s.size : Int)) = false := by rw [beq_eq_false_iff_ne]; omega
          by_cases d4 : (s.size : Int) - p - 1 < 1
          · have E : Hid (rdAll s.data.toList = (0, 0, false)) := by unfold Hid; rw [hall2.out]; unfold rdEnd; rw [if_neg (by simp only; omega), if_neg d3, if_pos (.inl d4)]
            go_wp2
            try rw [Exit.noGoto_ret]
            go_ret3
            exact ⟨by rw [E.out]; rfl, rfl⟩
          · have d4' : decide ((s.size : Int) - p - 1 < 1) = false := by simpa using d4
            by_cases d5 : 6 < (s.size : Int) - p - 1
            · have E : Hid (rdAll s.data.toList = (0, 0, false)) := by unfold Hid; rw [hall2.out]; unfold rdEnd; rw [if_neg (by simp only; omega), if_neg d3, if_pos (.inr d5)]
              go_wp2
              try rw [Exit.noGoto_ret]
              go_ret3
              exact ⟨by rw [E.out]; rfl, rfl⟩
            · have d5' : decide (6 < (s.size : Int) - p - 1) = false := by simpa using d5
              have E : Hid (rdAll s.data.toList = (n, (s.size : Int) - p - 1, true)) := by unfold Hid; rw [hall2.out]; unfold rdEnd; rw [if_neg (by simp only; omega), if_neg d3, if_neg (by simp only; omega)]
              go_wp2
              try rw [Exit.noGoto_ret]
              go_ret3
              exact ⟨by rw [E.out]; rfl, rfl⟩
end Go.Proofs.YtgfigcjbfigmiaaDoor

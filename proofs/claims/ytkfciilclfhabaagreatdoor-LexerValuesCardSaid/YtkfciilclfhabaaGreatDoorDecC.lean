/-
  decimal.Parse for every string and decimal.Format for every int (taken over from stage 2).
-/
import Derived.Test.YtkfciilclfhabaaGreatDoorDecB
import Derived.Test.YtkfciilclfhabaaGreatDoorShelf
import Derived.WalkSmall
import Derived.Lib.LaidTab
import Derived.WalkMore
import Derived.Deep.LoopGhost
import Derived.Lib.ItoaMem
import Derived.BigCall
import Derived.BigGuard
import Derived.Laws.Concat
namespace Go.Proofs.YtkfciilclfhabaaGreatDoor.dec
open Go.RowKit Go.Shelf

/-- decimal.withDigit. -/
def wd (n d : Int) : Int := if 115292150460684697 < n then 1152921504606846977 else 10 * n + d
theorem wd_range {n d : Int} (n0 : 0 ≤ n) (d0 : 0 ≤ d) (d9 : d ≤ 9) : 0 ≤ wd n d ∧ wd n d ≤ 1152921504606846979 := by unfold wd; split <;> omega
theorem withDigit_any (n d : Int) (w : World) (n0 : 0 ≤ n) (d0 : 0 ≤ d) (d9 : d ≤ 9) :
    Calls Tryz.prog 73 #[.int .i64 n, .int .i64 d] w fun e w' => e = .returned (.int .i64 (wd n d)) ∧ w = w' := by
  by_cases h : 115292150460684697 < n
  · have e : Hid (wd n d = 1152921504606846977) := if_pos h
    go_enter Tryz.func73, Tryz.ntmps73
    go_wp2
    go_ret
    exact ⟨by rw [e.out]; rfl, rfl⟩
  · have e : Hid (wd n d = 10 * n + d) := if_neg h
    go_enter Tryz.func73, Tryz.ntmps73
    go_wp2
    go_ret
    exact ⟨by rw [e.out]; rfl, rfl⟩

/-- The byte at a place, as a number; 0 beyond the end. -/
def byteAt (l : List UInt8) (i : Nat) : Int := ((l.getD i 0).toNat : Int)
/-- The loop of decimal.readDigits, from the place i on: where it ends, the number, and the point's place (the length while there is none). -/
def rd (l : List UInt8) : Nat → Nat → Int → Nat → Nat × Int × Nat
  | 0, i, n, p => (i, n, p)
  | k + 1, i, n, p =>
    if i < l.length then
      if 48 ≤ byteAt l i ∧ byteAt l i ≤ 57 then rd l k (i + 1) (wd n (byteAt l i - 48)) p
      else if byteAt l i = 46 ∧ p = l.length then rd l k (i + 1) n i
      else (i, n, p)
    else (i, n, p)
/-- What decimal.readDigits answers: the number, the digits behind the point, and whether the string is a decimal. -/
def rdEnd (len : Nat) (r : Nat × Int × Nat) : Int × Int × Bool :=
  if r.1 < len ∨ r.2.2 = 0 then (0, 0, false)
  else if r.2.2 = len then (r.2.1, 0, true)
  else if (len : Int) - r.2.2 - 1 < 1 ∨ 6 < (len : Int) - r.2.2 - 1 then (0, 0, false)
  else (r.2.1, (len : Int) - r.2.2 - 1, true)
def rdAll (l : List UInt8) : Int × Int × Bool := rdEnd l.length (rd l l.length 0 0 l.length)

theorem byteAt_eq (s : ByteArray) (i : Nat) (hi : i < s.size) : ((s[i]'hi).toNat : Int) = byteAt s.data.toList i := by
  unfold byteAt
  rw [← Lib.getD_at s i hi]
theorem byteAt_range (l : List UInt8) (i : Nat) : 0 ≤ byteAt l i ∧ byteAt l i ≤ 255 := by
  unfold byteAt
  have := UInt8.toNat_lt (l.getD i 0)
  omega

theorem rd_digit {l : List UInt8} {N i p : Nat} {n : Int} (hN : l.length = N) (h : i < N) (h1 : 48 ≤ byteAt l i) (h2 : byteAt l i ≤ 57) :
    rd l (N - i) i n p = rd l (N - (i + 1)) (i + 1) (wd n (byteAt l i - 48)) p := by
  obtain ⟨k, hk⟩ : ∃ k, N - i = k + 1 := ⟨N - i - 1, by omega⟩
  have hk' : N - (i + 1) = k := by omega
  rw [hk, hk', rd, if_pos (by omega), if_pos ⟨h1, h2⟩]
theorem rd_point {l : List UInt8} {N i p : Nat} {n : Int} (hN : l.length = N) (h : i < N) (h1 : byteAt l i = 46) (h2 : p = N) :
    rd l (N - i) i n p = rd l (N - (i + 1)) (i + 1) n i := by
  obtain ⟨k, hk⟩ : ∃ k, N - i = k + 1 := ⟨N - i - 1, by omega⟩
  have hk' : N - (i + 1) = k := by omega
  rw [hk, hk', rd, if_pos (by omega), if_neg (by omega), if_pos ⟨h1, by omega⟩]
theorem rd_stop {l : List UInt8} {N i p : Nat} {n : Int} (hN : l.length = N) (h : i < N) (h1 : ¬ (48 ≤ byteAt l i ∧ byteAt l i ≤ 57)) (h2 : ¬ (byteAt l i = 46 ∧ p = N)) :
    rd l (N - i) i n p = (i, n, p) := by
  obtain ⟨k, hk⟩ : ∃ k, N - i = k + 1 := ⟨N - i - 1, by omega⟩
  rw [hk, rd, if_pos (by omega), if_neg h1, if_neg (by omega)]
theorem rd_done {l : List UInt8} {N i p : Nat} {n : Int} (h : N ≤ i) : rd l (N - i) i n p = (i, n, p) := by
  rw [show N - i = 0 by omega, rd]

set_option maxHeartbeats 1000000 in
theorem readDigits_any (s : ByteArray) (w : World) (hs : s.size ≤ 9223372036854775806) :
    Calls Tryz.prog 44 #[.string s] w fun e w' =>
      e = .returned (.tuple #[.int .i64 (rdAll s.data.toList).1, .int .i64 (rdAll s.data.toList).2.1, .bool (rdAll s.data.toList).2.2]) ∧ w = w' := by
  have hlen : s.data.toList.length = s.size := by rw [Lib.size_eq]
  obtain ⟨R, hR⟩ : ∃ R, R = rd s.data.toList s.size 0 0 s.size := ⟨_, rfl⟩
  have hall : Hid (rdAll s.data.toList = rdEnd s.size R) := by unfold Hid rdAll; rw [hlen, hR]
  have HL := Lib.hid hlen
  have HR := Lib.hid hR
  clear hlen hR
  go_enter Tryz.func44, Tryz.ntmps44
  go_wp2
  go_step3
  go_wp2
  go_step3
  go_upto_block 0 with fail
  go_cut [2, 5, 6] (fun vn vp vi wx => ∃ (i p : Nat) (n : Int), i ≤ s.size ∧ p ≤ s.size ∧ 0 ≤ n ∧ n ≤ 1152921504606846979 ∧ vn = .int .i64 n ∧ vp = .int .i64 p ∧ vi = .int .i64 i ∧ Hid (R = (i, n, p)) ∧ wx = w)
  case first =>
    go_wp2
    go_loop [2, 5, 6] (fun vn vp vi => ∃ (i p : Nat) (n : Int), i ≤ s.size ∧ p ≤ s.size ∧ 0 ≤ n ∧ n ≤ 1152921504606846979 ∧ vn = .int .i64 n ∧ vp = .int .i64 p ∧ vi = .int .i64 i ∧ Hid (R = rd s.data.toList (s.size - i) i n p)) (fun _ _ vi => s.size - (intOf vi).toNat)
    case atStart => exact ⟨0, s.size, 0, by omega, by omega, by omega, by omega, rfl, rfl, rfl, by unfold Hid; rw [HR.out]; rfl⟩
    case round =>
      obtain ⟨i, p, n, hi, hp, n0, n1, rfl, rfl, rfl, hrd⟩ := hrel
      by_cases hl : i < s.size
      · obtain ⟨c, hc⟩ : ∃ c, c = byteAt s.data.toList i := ⟨_, rfl⟩
        have hX : ∀ w, (Instr.index 9 (.string s) (.int .i64 (i : Int))).run Tryz.prog w = .ok (.int .u8 c) w := fun w => by
          rw [run_index_string w _ s .i64 _ Tryz.underlying9, dif_pos ⟨by omega, by omega⟩, hc, ← byteAt_eq s i hl]
          rfl
        have hr := byteAt_range s.data.toList i
        rw [← hc] at hr
        obtain ⟨r0, r1⟩ := hr
        have HC := Lib.hid hc
        clear hc
        by_cases c1 : 48 ≤ c
        · by_cases c2 : c ≤ 57
          · have HD : Hid (R = rd s.data.toList (s.size - (i + 1)) (i + 1) (wd n (c - 48)) p) := by
              unfold Hid; rw [hrd.out, rd_digit HL.out hl (by rw [← HC.out]; exact c1) (by rw [← HC.out]; exact c2), ← HC.out]
            have hw := wd_range (n := n) (d := c - 48) n0 (by omega) (by omega)
            have c1' : decide (48 ≤ c) = true := by simpa using c1
            have c2' : decide (c ≤ 57) = true := by simpa using c2
            go_wp2_with (go_at_call 73; refine (withDigit_any n (c - 48) _ n0 (by omega) (by omega)).mono ?_; rintro e w' ⟨rfl, rfl⟩)
            exact ⟨⟨i + 1, p, wd n (c - 48), by omega, hp, hw.1, hw.2, rfl, rfl, by congr 1, HD⟩, by simp [intOf]; omega⟩
          · have HD : Hid (R = (i, n, p)) := by
              unfold Hid; rw [hrd.out, rd_stop HL.out hl (by rw [← HC.out]; omega) (by rw [← HC.out]; omega)]
            have c1' : decide (48 ≤ c) = true := by simpa using c1
            have c2' : decide (c ≤ 57) = false := by simp; omega
            have c3' : (c == 46) = false := by rw [beq_eq_false_iff_ne]; omega
            go_wp2
            go_meet
            exact ⟨i, p, n, hi, hp, n0, n1, rfl, rfl, rfl, HD, rfl⟩
        · have c1' : decide (48 ≤ c) = false := by simp; omega
          by_cases c3 : c = 46
          · by_cases c4 : p = s.size
            · have HD : Hid (R = rd s.data.toList (s.size - (i + 1)) (i + 1) n i) := by
                unfold Hid; rw [hrd.out, rd_point HL.out hl (by rw [← HC.out]; exact c3) c4]
              subst c3
              subst c4
              go_wp2
              exact ⟨⟨i + 1, i, n, by omega, by omega, n0, n1, rfl, rfl, by congr 1, HD⟩, by simp [intOf]; omega⟩
            · have HD : Hid (R = (i, n, p)) := by
                unfold Hid; rw [hrd.out, rd_stop HL.out hl (by rw [← HC.out]; omega) (by rw [← HC.out]; omega)]
              have c4' : ((p : Int) == (s.size : Int)) = false := by rw [beq_eq_false_iff_ne]; omega
              subst c3
              go_wp2
              go_meet
              exact ⟨i, p, n, hi, hp, n0, n1, rfl, rfl, rfl, HD, rfl⟩
          · have HD : Hid (R = (i, n, p)) := by
              unfold Hid; rw [hrd.out, rd_stop HL.out hl (by rw [← HC.out]; omega) (by rw [← HC.out]; omega)]
            have c3' : (c == 46) = false := by rw [beq_eq_false_iff_ne]; omega
            go_wp2
            go_meet
            exact ⟨i, p, n, hi, hp, n0, n1, rfl, rfl, rfl, HD, rfl⟩
      · have HD : Hid (R = (i, n, p)) := by
          unfold Hid; rw [hrd.out, rd_done (by omega)]
        go_wp2
        go_meet
        exact ⟨i, p, n, hi, hp, n0, n1, rfl, rfl, rfl, HD, rfl⟩
  case rest =>
    obtain ⟨i, p, n, hi, hp, n0, n1, rfl, rfl, rfl, hR, rfl⟩ := hcut
    have hall2 : Hid (rdAll s.data.toList = rdEnd s.size (i, n, p)) := by unfold Hid; rw [hall.out, hR.out]
    clear hall hR HR HL
    by_cases d1 : i < s.size
    · have E : Hid (rdAll s.data.toList = (0, 0, false)) := by unfold Hid; rw [hall2.out]; unfold rdEnd; rw [if_pos (.inl d1)]
      go_wp2
      try rw [Exit.noGoto_ret]
      go_ret3
      exact ⟨by rw [E.out]; rfl, rfl⟩
    · by_cases d2 : p = 0
      · have E : Hid (rdAll s.data.toList = (0, 0, false)) := by unfold Hid; rw [hall2.out]; unfold rdEnd; rw [if_pos (.inr d2)]
        subst d2
        go_wp2
        try rw [Exit.noGoto_ret]
        go_ret3
        exact ⟨by rw [E.out]; rfl, rfl⟩
      · have d2' : ((p : Int) == 0) = false := by rw [beq_eq_false_iff_ne]; omega
        by_cases d3 : p = s.size
        · have E : Hid (rdAll s.data.toList = (n, 0, true)) := by unfold Hid; rw [hall2.out]; unfold rdEnd; rw [if_neg (by simp only; omega), if_pos d3]
          subst d3
          go_wp2
          try rw [Exit.noGoto_ret]
          go_ret3
          exact ⟨by rw [E.out]; rfl, rfl⟩
        · have d3' : ((p : Int) == (s.size : Int)) = false := by rw [beq_eq_false_iff_ne]; omega
          by_cases d4 : (s.size : Int) - p - 1 < 1
          · have E : Hid (rdAll s.data.toList = (0, 0, false)) := by unfold Hid; rw [hall2.out]; unfold rdEnd; rw [if_neg (by simp only; omega), if_neg d3, if_pos (.inl d4)]
            go_wp2
            try rw [Exit.noGoto_ret]
            go_ret3
            exact ⟨by rw [E.out]; rfl, rfl⟩
          · have d4' : decide ((s.size : Int) - p - 1 < 1) = false := by simpa using d4
            by_cases d5 : 6 < (s.size : Int) - p - 1
            · have E : Hid (rdAll s.data.toList = (0, 0, false)) := by unfold Hid; rw [hall2.out]; unfold rdEnd; rw [if_neg (by simp only; omega), if_neg d3, if_pos (.inr d5)]
              go_wp2
              try rw [Exit.noGoto_ret]
              go_ret3
              exact ⟨by rw [E.out]; rfl, rfl⟩
            · have d5' : decide (6 < (s.size : Int) - p - 1) = false := by simpa using d5
              have E : Hid (rdAll s.data.toList = (n, (s.size : Int) - p - 1, true)) := by unfold Hid; rw [hall2.out]; unfold rdEnd; rw [if_neg (by simp only; omega), if_neg d3, if_neg (by simp only; omega)]
              go_wp2
              try rw [Exit.noGoto_ret]
              go_ret3
              exact ⟨by rw [E.out]; rfl, rfl⟩
end Go.Proofs.YtkfciilclfhabaaGreatDoor.dec

namespace Go.Proofs.YtkfciilclfhabaaGreatDoor.dec
open Go.RowKit Go.Shelf

theorem rd_range (l : List UInt8) : ∀ (k i : Nat) (n : Int) (p : Nat), 0 ≤ n → n ≤ 1152921504606846979 → 0 ≤ (rd l k i n p).2.1 ∧ (rd l k i n p).2.1 ≤ 1152921504606846979
  | 0, _, _, _, h0, h1 => ⟨h0, h1⟩
  | k + 1, i, n, p, h0, h1 => by
    rw [rd]
    split
    · split
      · rename_i hd
        have hw := wd_range (n := n) (d := byteAt l i - 48) h0 (by omega) (by omega)
        exact rd_range l k (i + 1) _ p hw.1 hw.2
      · split
        · exact rd_range l k (i + 1) n i h0 h1
        · exact ⟨h0, h1⟩
    · exact ⟨h0, h1⟩
theorem rdAll_range (l : List UInt8) : 0 ≤ (rdAll l).1 ∧ (rdAll l).1 ≤ 1152921504606846979 ∧ 0 ≤ (rdAll l).2.1 ∧ (rdAll l).2.1 ≤ 6 := by
  have h := rd_range l l.length 0 0 l.length (by omega) (by omega)
  unfold rdAll rdEnd
  split
  · simp
  · split
    · exact ⟨h.1, h.2, by simp, by simp⟩
    · split
      · simp
      · exact ⟨h.1, h.2, by simp only; omega, by simp only; omega⟩

/-- The table decimal.powers. -/
def powTab : List Int := [1, 10, 100, 1000, 10000, 100000, 1000000]
theorem gPow : Tryz.prog.globalNamed "asof/decimal.powers" = some 0 := by kernel_rfl
theorem pow_range {a : Int} (h0 : 0 ≤ a) (h6 : a ≤ 6) : 1 ≤ powTab.getD (6 - a).toNat 0 ∧ powTab.getD (6 - a).toNat 0 ≤ 1000000 := by
  obtain h | h | h | h | h | h | h : a = 0 ∨ a = 1 ∨ a = 2 ∨ a = 3 ∨ a = 4 ∨ a = 5 ∨ a = 6 := by omega
  all_goals (subst h; decide)

/-- The millionths that a decimal's digits stand for. -/
def pmOf (l : List UInt8) : Int := (if Lib.hasPrefix l [45] then -(rdAll (Lib.trimPrefix l [45])).1 else (rdAll (Lib.trimPrefix l [45])).1) * powTab.getD (6 - (rdAll (Lib.trimPrefix l [45])).2.1).toNat 0
/-- What decimal.Parse answers: the number and the error. -/
def paX (l : List UInt8) : Int := if (rdAll (Lib.trimPrefix l [45])).2.2 && rg (pmOf l) then pmOf l else 0
def paE (l : List UInt8) : Int := if (rdAll (Lib.trimPrefix l [45])).2.2 then (if rg (pmOf l) then 0 else 2) else 3

theorem parse_core (s t : ByteArray) (neg ok : Bool) (n a P m X E : Int) (w : World)
    (CC : Hid (Calls Tryz.prog 43 #[.string s, .string ⟨#[45]⟩] w fun e w' => e = .returned (.tuple #[.string t, .bool neg]) ∧ w' = w))
    (CR : Hid (Calls Tryz.prog 44 #[.string t] w fun e w' => e = .returned (.tuple #[.int .i64 n, .int .i64 a, .bool ok]) ∧ w = w'))
    (n0 : 0 ≤ n) (n1 : n ≤ 1152921504606846979) (a0 : 0 ≤ a) (a6 : a ≤ 6) (P1 : 1 ≤ P) (P2 : P ≤ 1000000)
    (hc : w.cell? ⟨0, (6 - a).toNat, none⟩ = some (.int .i64 P))
    (hm : Hid (m = (if neg then -n else n) * P)) (hX : Hid (X = if ok && rg m then m else 0)) (hE : Hid (E = if ok then (if rg m then 0 else 2) else 3)) :
    Calls Tryz.prog 19 #[.string s] w fun e w' => e = .returned (.tuple #[.int .i64 X, .int .i64 E]) ∧ Below w.heap.size w w' := by
  cases ok
  · have eX : Hid (X = 0) := by unfold Hid; rw [hX.out]; rfl
    have eE : Hid (E = 3) := by unfold Hid; rw [hE.out]; rfl
    go_enter Tryz.func19, Tryz.ntmps19
    go_wp2_with (first
      | (go_at_call 43; refine CC.out.mono ?_; rintro e w' ⟨rfl, rfl⟩)
      | (go_at_call 44; refine CR.out.mono ?_; rintro e w' ⟨rfl, rfl⟩))
    go_ret2
    exact ⟨by rw [eX.out, eE.out]; rfl, b0 _⟩
  · cases neg
    · have em : Hid (n * P = m) := by unfold Hid; rw [hm.out]; rfl
      have im : In m := by rw [← em.out]; exact mul_in (by omega) (by omega) (by omega) (by omega)
      cases hr : rg m
      · have eX : Hid (X = 0) := by unfold Hid; rw [hX.out, hr]; rfl
        have eE : Hid (E = 2) := by unfold Hid; rw [hE.out, hr]; rfl
        go_enter Tryz.func19, Tryz.ntmps19
        go_wp2_with (first
          | (go_at_call 43; refine CC.out.mono ?_; rintro e w' ⟨rfl, rfl⟩)
          | (go_at_call 44; refine CR.out.mono ?_; rintro e w' ⟨rfl, rfl⟩))
        refine (mul_u n P _ (by omega) (by omega) (by omega) (by omega)).mono ?_
        rw [em.out]
        rintro e w1 ⟨rfl, k1⟩
        go_wp2_with fail
        refine (checked_any im _).mono ?_
        rw [hr]
        rintro e w2 ⟨rfl, k2⟩
        replace k2 := bnext k1 k2
        go_wp2_with fail
        go_ret2
        exact ⟨by rw [eX.out, eE.out]; rfl, k2⟩
      · have eX : Hid (X = m) := by unfold Hid; rw [hX.out, hr]; rfl
        have eE : Hid (E = 0) := by unfold Hid; rw [hE.out, hr]; rfl
        go_enter Tryz.func19, Tryz.ntmps19
        go_wp2_with (first
          | (go_at_call 43; refine CC.out.mono ?_; rintro e w' ⟨rfl, rfl⟩)
          | (go_at_call 44; refine CR.out.mono ?_; rintro e w' ⟨rfl, rfl⟩))
        refine (mul_u n P _ (by omega) (by omega) (by omega) (by omega)).mono ?_
        rw [em.out]
        rintro e w1 ⟨rfl, k1⟩
        go_wp2_with fail
        refine (checked_any im _).mono ?_
        rw [hr, kx_yes hr]
        rintro e w2 ⟨rfl, k2⟩
        replace k2 := bnext k1 k2
        go_wp2_with fail
        go_ret2
        exact ⟨by rw [eX.out, eE.out]; rfl, k2⟩
    · have em : Hid (-n * P = m) := by unfold Hid; rw [hm.out]; rfl
      have im : In m := by rw [← em.out]; exact mul_in (by omega) (by omega) (by omega) (by omega)
      cases hr : rg m
      · have eX : Hid (X = 0) := by unfold Hid; rw [hX.out, hr]; rfl
        have eE : Hid (E = 2) := by unfold Hid; rw [hE.out, hr]; rfl
        go_enter Tryz.func19, Tryz.ntmps19
        go_wp2_with (first
          | (go_at_call 43; refine CC.out.mono ?_; rintro e w' ⟨rfl, rfl⟩)
          | (go_at_call 44; refine CR.out.mono ?_; rintro e w' ⟨rfl, rfl⟩))
        refine (mul_u (-n) P _ (by omega) (by omega) (by omega) (by omega)).mono ?_
        rw [em.out]
        rintro e w1 ⟨rfl, k1⟩
        go_wp2_with fail
        refine (checked_any im _).mono ?_
        rw [hr]
        rintro e w2 ⟨rfl, k2⟩
        replace k2 := bnext k1 k2
        go_wp2_with fail
        go_ret2
        exact ⟨by rw [eX.out, eE.out]; rfl, k2⟩
      · have eX : Hid (X = m) := by unfold Hid; rw [hX.out, hr]; rfl
        have eE : Hid (E = 0) := by unfold Hid; rw [hE.out, hr]; rfl
        go_enter Tryz.func19, Tryz.ntmps19
        go_wp2_with (first
          | (go_at_call 43; refine CC.out.mono ?_; rintro e w' ⟨rfl, rfl⟩)
          | (go_at_call 44; refine CR.out.mono ?_; rintro e w' ⟨rfl, rfl⟩))
        refine (mul_u (-n) P _ (by omega) (by omega) (by omega) (by omega)).mono ?_
        rw [em.out]
        rintro e w1 ⟨rfl, k1⟩
        go_wp2_with fail
        refine (checked_any im _).mono ?_
        rw [hr, kx_yes hr]
        rintro e w2 ⟨rfl, k2⟩
        replace k2 := bnext k1 k2
        go_wp2_with fail
        go_ret2
        exact ⟨by rw [eX.out, eE.out]; rfl, k2⟩

theorem parse_any (s : ByteArray) (w : World) (hs : s.size ≤ 9223372036854775806) (hp : Lib.TabIs Tryz.prog w "asof/decimal.powers" .i64 powTab) :
    Calls Tryz.prog 19 #[.string s] w fun e w' => e = .returned (.tuple #[.int .i64 (paX s.data.toList), .int .i64 (paE s.data.toList)]) ∧ Below w.heap.size w w' := by
  obtain ⟨t, ht⟩ : ∃ t : ByteArray, t = ⟨(Lib.trimPrefix s.data.toList (⟨#[45]⟩ : ByteArray).data.toList).toArray⟩ := ⟨_, rfl⟩
  have htl : t.data.toList = Lib.trimPrefix s.data.toList [45] := by rw [ht]
  have hts : t.size ≤ 9223372036854775806 := by
    have h1 : t.size = t.data.toList.length := (Lib.size_eq t)
    have h2 := Lib.trimPrefix_le s.data.toList [45]
    have h3 : s.size = s.data.toList.length := (Lib.size_eq s)
    rw [htl] at h1
    omega
  have CR := readDigits_any t w hts
  rw [htl] at CR
  have CC := Tryz.strings_CutPrefix s ⟨#[45]⟩ w
  rw [← ht] at CC
  obtain ⟨n0, n1, a0, a6⟩ := rdAll_range (Lib.trimPrefix s.data.toList [45])
  have hc := hp.cell gPow (6 - (rdAll (Lib.trimPrefix s.data.toList [45])).2.1).toNat (by show _ < 7; omega)
  have hPr := pow_range a0 a6
  exact parse_core s t _ _ _ _ _ _ _ w CC CR n0 n1 a0 a6 hPr.1 hPr.2 hc (m := pmOf s.data.toList) rfl rfl rfl
end Go.Proofs.YtkfciilclfhabaaGreatDoor.dec

namespace Go.Proofs.YtkfciilclfhabaaGreatDoor.dec
open Go.RowKit Go.Shelf Go.Sort Go.Lib

theorem holds_zero0 (w : World) (T : TypeId) (nd : Nat) (hs : nd ≤ 24) : Holds (fun (b : UInt8) => Value.int .u8 (b.toNat : Int)) (w.alloc (.cells Lib.zeros24 T)) w.heap.size 0 (Array.replicate nd (0 : UInt8)) := fun j hj => by
  have hj' : j < nd := by simpa using hj
  refine ⟨?_, World.frozen?_alloc_new _ _ _ _⟩
  rw [World.cell?_alloc_new, Lib.zeros24_at _ (by omega), getElem!_pos _ j hj]
  simp
theorem below_putRow (w : World) (o : Obj) (dk : Array UInt8) (k : Nat) : Below w.heap.size w ((putRow (fun (b : UInt8) => Value.int .u8 (b.toNat : Int)) (w.alloc o) w.heap.size 0 dk).drewN k) := by
  rw [alloc_eq_grow]
  obtain ⟨os', _, e⟩ := putRow_grow_new (fun (b : UInt8) => Value.int .u8 (b.toNat : Int)) w #[o] w.heap.size 0 dk (Nat.le_refl _)
  rw [e]
  have h : Below w.heap.size w (grow w os') := by
    exact below_regrown w w.drawn os'
  exact below_drewN' h k

set_option maxHeartbeats 3200000 in
set_option maxRecDepth 100000 in
theorem fmtIn_any (u : Nat) (hu64 : u < 18446744073709551616) (w : World) (htab : Lib.TabIs Tryz.prog w "internal/strconv.uint64pow10" .u64 Lib.pow10Tab) :
    Calls Tryz.prog 111 #[.int .u64 u, .int .i64 10] w fun e w' => e = .returned (.string ⟨(Lib.decDigits u).toArray⟩) ∧ Below w.heap.size w w' := by
  by_cases hs : u < 100
  · go_enter Tryz.func111, Tryz.ntmps111
    go_wp2_with (go_at_call 121; refine (Tryz.internal_strconv_small u hs _).mono ?_; rintro e w' ⟨rfl, rfl⟩)
    go_ret
    exact ⟨rfl, b0 _⟩
  · have hu1 : 1 ≤ u := by omega
    have hnd20 : Lib.nDigits u ≤ 20 := by have := Lib.numDigits_eq u hu1 hu64; split at this <;> omega
    have hb3 : Lib.nDigits u ≤ 24 := by omega
    have hal : Tryz.prog.arrayLen 138 = 24 := by kernel_rfl
    have hsl1 : ∀ W, (Instr.sliceAt 138 (.pointer (some ⟨w.heap.size, 0, none⟩)) none (some (.int .i64 (Lib.nDigits u : Int))) none).run Tryz.prog W = .ok (.slice (some ⟨w.heap.size, 0, none⟩) (Lib.nDigits u) 24) W := fun W => by
      rw [run_sliceAt_array_h W 138 ⟨w.heap.size, 0, none⟩ (by kernel_rfl) .i64 (Lib.nDigits u : Int) (by omega) (by rw [hal]; omega)]
      go_simp
    have hH0 := holds_zero0 w 138 (Lib.nDigits u) hb3
    have hfmt := Tryz.internal_strconv_formatBase10 w.heap.size 0 24 u (Array.replicate (Lib.nDigits u) 0) (w.alloc (.cells Lib.zeros24 138)) hH0 (by rw [Array.size_replicate]; exact Lib.lt_pow_nDigits u) hu64 (by rw [Array.size_replicate]; omega)
    rw [Array.size_replicate] at hfmt
    have HH0 := Lib.hid hH0
    clear hH0 hal
    go_enter Tryz.func111, Tryz.ntmps111
    go_wp2_with (first
      | (go_at_call 122; refine (Tryz.internal_strconv_numDigits u hu1 hu64 _ (Lib.tabIs_alloc htab _)).mono ?_; rintro e w' ⟨rfl, rfl⟩))
    go_at_call 123
    refine hfmt.mono ?_
    rintro e w' ⟨rfl, k, v', dk, rfl, hF⟩
    have hcv : (convert 22 9 (.slice (some ⟨w.heap.size, 0, none⟩) (Lib.nDigits u) 24)).run Tryz.prog ((putRow (fun (b : UInt8) => Value.int .u8 (b.toNat : Int)) (w.alloc (.cells Lib.zeros24 138)) w.heap.size 0 dk).drewN k) = .ok (.string ⟨(Lib.decDigits u).toArray⟩) ((putRow (fun (b : UInt8) => Value.int .u8 (b.toNat : Int)) (w.alloc (.cells Lib.zeros24 138)) w.heap.size 0 dk).drewN k) := by
      have h := run_convert_bytes_back (P := Tryz.prog) ((putRow (fun (b : UInt8) => Value.int .u8 (b.toNat : Int)) (w.alloc (.cells Lib.zeros24 138)) w.heap.size 0 dk).drewN k) 22 9 5 ⟨w.heap.size, 0, none⟩ 24 (Lib.decDigits u) Tryz.underlying22 Tryz.underlying5 Tryz.underlying9 (fun j hj => by
        rw [Lib.row_is_numeral hF j hj, Lib.add_plain, World.cell?_drewN]
        exact cell?_putRow (fun (b : UInt8) => Value.int .u8 (b.toNat : Int)) _ w.heap.size 0 _ dk HH0.out (by rw [hF.size, Array.size_replicate]) j (by rw [hF.size]; rw [Lib.decDigits_length] at hj; exact hj))
      rw [Lib.decDigits_length] at h
      exact h
    go_wp2
    go_ret
    exact ⟨rfl, below_putRow w _ dk k⟩

theorem fmt_any (u : Int) (h0 : 0 ≤ u) (h1 : u ≤ 18446744073709551615) (w : World) (htab : Lib.TabIs Tryz.prog w "internal/strconv.uint64pow10" .u64 Lib.pow10Tab) :
    Calls Tryz.prog 93 #[.int .u64 u, .int .i64 10] w fun e w' => e = .returned (.string ⟨(Lib.decDigits u.toNat).toArray⟩) ∧ Below w.heap.size w w' := by
  obtain ⟨n, rfl⟩ := Int.eq_ofNat_of_zero_le h0
  have CI := Lib.hid (fmtIn_any n (by omega) w htab)
  go_enter Tryz.func93, Tryz.ntmps93
  go_wp2_with fail
  refine CI.out.mono ?_
  rintro e w1 ⟨rfl, k1⟩
  go_wp2_with fail
  go_ret
  exact ⟨rfl, k1⟩
end Go.Proofs.YtkfciilclfhabaaGreatDoor.dec

namespace Go.Proofs.YtkfciilclfhabaaGreatDoor.dec
open Go.RowKit Go.Shelf Go.Sort Go.Lib

/-- What decimal.Format answers. -/
def foX (x : Int) : List UInt8 := (if x < 0 then [45] else []) ++ Lib.decDigits (x.natAbs / 1000000) ++ [46] ++ (Lib.decDigits (1000000 + x.natAbs % 1000000)).drop 1

theorem dig_len (u : Nat) (h : u < 18446744073709551616) : 1 ≤ (Lib.decDigits u).length ∧ (Lib.decDigits u).length ≤ 20 := by
  rw [Lib.decDigits_length]
  refine ⟨Lib.nDigits_pos u, ?_⟩
  by_cases hu : 1 ≤ u
  · have := Lib.numDigits_eq u hu h; split at this <;> omega
  · rw [Lib.nDigits_small (by omega)]; decide
theorem slice_one (l : List UInt8) (h : 1 ≤ l.length) (W : World) : (Instr.slice 9 (.string ⟨l.toArray⟩) (some (.int .i64 1)) none none).run Tryz.prog W = .ok (.string ⟨(l.drop 1).toArray⟩) W := by
  have e : (ByteArray.mk l.toArray).size = l.length := by show l.toArray.size = _; simp
  rw [run_slice_string_from_if W 9 ⟨l.toArray⟩ .i64 _ Tryz.underlying9, if_pos ⟨by omega, by rw [e]; omega⟩]
  congr 2
  apply ByteArray.ext
  apply Array.ext'
  rw [Lib.extract_data]
  simp only [e]
  show ((l.toArray.toList.drop 1).take (l.length - 1)) = _
  rw [List.take_of_length_le (by simp)]
theorem add_lists (x y : List UInt8) (hx : x.length ≤ 100) (hy : y.length ≤ 100) (W : World) : (Op.stringOp .add ⟨x.toArray⟩ ⟨y.toArray⟩).run Tryz.prog W = .ok (.string ⟨(x ++ y).toArray⟩) W := run_string_add_lists W x y (by omega) (by omega)

theorem abs_wrap {x : Int} (h1 : -9223372036854775808 ≤ x) (h2 : x ≤ 9223372036854775807) :
    (x < 0 → IntKind.u64.wrap (-IntKind.u64.wrap x) = (x.natAbs : Int)) ∧ (0 ≤ x → IntKind.u64.wrap x = (x.natAbs : Int)) := by
  rw [IntKind.wrap_u64, IntKind.wrap_u64]
  constructor
  · intro h; omega
  · intro h; omega

theorem tab_stays {w w' : World} {n : String} {k : IntKind} {zs : List Int} (h : Lib.TabIs Tryz.prog w n k zs) (hb : Below w.heap.size w w') : Lib.TabIs Tryz.prog w' n k zs := by
  unfold Lib.TabIs at *
  cases hg : Tryz.prog.globalNamed n with
  | none => unfold World.var? at h; simp [hg] at h
  | some g => exact Go.Joins.var_stays hg h hb (Nat.le_refl _)

set_option maxHeartbeats 1000000 in
theorem format_any (x : Int) (h1 : -9223372036854775808 ≤ x) (h2 : x ≤ 9223372036854775807) (w : World) (htab : Lib.TabIs Tryz.prog w "internal/strconv.uint64pow10" .u64 Lib.pow10Tab) :
    Calls Tryz.prog 71 #[.int .i64 x] w fun e w' => e = .returned (.string ⟨(foX x).toArray⟩) ∧ Below w.heap.size w w' := by
  have haw := abs_wrap h1 h2
  obtain ⟨u, hu⟩ : ∃ u : Nat, u = x.natAbs := ⟨_, rfl⟩
  have hu64 : u ≤ 9223372036854775808 := by omega
  have hf : Hid (foX x = (if x < 0 then [45] else []) ++ Lib.decDigits (u / 1000000) ++ [46] ++ (Lib.decDigits (1000000 + u % 1000000)).drop 1) := by unfold Hid foX; rw [← hu]
  rw [← hu] at haw
  have CA := Lib.hid (fmt_any ((1000000 + u % 1000000 : Nat) : Int) (by omega) (by omega) w htab)
  have CB := Lib.hid (fun w' hb => fmt_any ((u / 1000000 : Nat) : Int) (by omega) (by omega) w' (tab_stays htab hb))
  have la := dig_len (1000000 + u % 1000000) (by omega)
  have lb := dig_len (u / 1000000) (by omega)
  have e1 : (((1000000 + u % 1000000 : Nat) : Int)).toNat = 1000000 + u % 1000000 := by omega
  have e2 : (((u / 1000000 : Nat) : Int)).toNat = u / 1000000 := by omega
  rw [e1] at CA
  rw [e2] at CB
  clear e1 e2 hu
  generalize Lib.decDigits (1000000 + u % 1000000) = a at *
  generalize Lib.decDigits (u / 1000000) = b at *
  have hsl := slice_one a la.1
  have q1 : ((1000000 + u % 1000000 : Nat) : Int) = 1000000 + (u : Int) % 1000000 := by omega
  have q2 : ((u / 1000000 : Nat) : Int) = (u : Int) / 1000000 := by omega
  rw [q1] at CA
  rw [q2] at CB
  clear q1 q2
  have hl3 : (a.drop 1).length ≤ 20 := by simp; omega
  generalize a.drop 1 = c at *
  by_cases hx : x < 0
  · have hw := haw.1 hx
    obtain ⟨d1, hd1⟩ : ∃ d1 : List UInt8, d1 = [45] ++ b := ⟨_, rfl⟩
    obtain ⟨d2, hd2⟩ : ∃ d2 : List UInt8, d2 = d1 ++ [46] := ⟨_, rfl⟩
    obtain ⟨d3, hd3⟩ : ∃ d3 : List UInt8, d3 = d2 ++ c := ⟨_, rfl⟩
    have l1 : d1.length ≤ 21 := by rw [hd1]; simp; omega
    have l2 : d2.length ≤ 22 := by rw [hd2]; simp; omega
    have p1 : ∀ W, (Op.stringOp .add ⟨#[45]⟩ ⟨b.toArray⟩).run Tryz.prog W = .ok (.string ⟨d1.toArray⟩) W := fun W => by rw [hd1]; exact add_lists [45] b (by simp) (by omega) W
    have p2 : ∀ W, (Op.stringOp .add ⟨d1.toArray⟩ ⟨#[46]⟩).run Tryz.prog W = .ok (.string ⟨d2.toArray⟩) W := fun W => by rw [hd2]; exact add_lists d1 [46] (by omega) (by simp) W
    have p3 : ∀ W, (Op.stringOp .add ⟨d2.toArray⟩ ⟨c.toArray⟩).run Tryz.prog W = .ok (.string ⟨d3.toArray⟩) W := fun W => by rw [hd3]; exact add_lists d2 c (by omega) (by omega) W
    have hf2 : Hid (foX x = d3) := by unfold Hid; rw [hf.out, if_pos hx, hd3, hd2, hd1]
    clear hf haw hd1 hd2 hd3
    go_enter Tryz.func71, Tryz.ntmps71
    go_wp2_with fail
    refine CA.out.mono ?_
    rintro e w1 ⟨rfl, k1⟩
    go_wp2_with fail
    refine (CB.out _ k1).mono ?_
    rintro e w2 ⟨rfl, k2⟩
    replace k2 := bnext k1 k2
    go_wp2_with fail
    go_ret
    exact ⟨by rw [hf2.out]; rfl, k2⟩
  · have hw := haw.2 (by omega)
    obtain ⟨d1, hd1⟩ : ∃ d1 : List UInt8, d1 = [] ++ b := ⟨_, rfl⟩
    obtain ⟨d2, hd2⟩ : ∃ d2 : List UInt8, d2 = d1 ++ [46] := ⟨_, rfl⟩
    obtain ⟨d3, hd3⟩ : ∃ d3 : List UInt8, d3 = d2 ++ c := ⟨_, rfl⟩
    have l1 : d1.length ≤ 21 := by rw [hd1]; simp; omega
    have l2 : d2.length ≤ 22 := by rw [hd2]; simp; omega
    have p1 : ∀ W, (Op.stringOp .add ⟨#[]⟩ ⟨b.toArray⟩).run Tryz.prog W = .ok (.string ⟨d1.toArray⟩) W := fun W => by rw [hd1]; exact add_lists [] b (by simp) (by omega) W
    have p2 : ∀ W, (Op.stringOp .add ⟨d1.toArray⟩ ⟨#[46]⟩).run Tryz.prog W = .ok (.string ⟨d2.toArray⟩) W := fun W => by rw [hd2]; exact add_lists d1 [46] (by omega) (by simp) W
    have p3 : ∀ W, (Op.stringOp .add ⟨d2.toArray⟩ ⟨c.toArray⟩).run Tryz.prog W = .ok (.string ⟨d3.toArray⟩) W := fun W => by rw [hd3]; exact add_lists d2 c (by omega) (by omega) W
    have hf2 : Hid (foX x = d3) := by unfold Hid; rw [hf.out, if_neg hx, hd3, hd2, hd1]
    clear hf haw hd1 hd2 hd3
    go_enter Tryz.func71, Tryz.ntmps71
    go_wp2_with fail
    refine CA.out.mono ?_
    rintro e w1 ⟨rfl, k1⟩
    go_wp2_with fail
    refine (CB.out _ k1).mono ?_
    rintro e w2 ⟨rfl, k2⟩
    replace k2 := bnext k1 k2
    go_wp2_with fail
    go_ret
    exact ⟨by rw [hf2.out]; rfl, k2⟩
end Go.Proofs.YtkfciilclfhabaaGreatDoor.dec

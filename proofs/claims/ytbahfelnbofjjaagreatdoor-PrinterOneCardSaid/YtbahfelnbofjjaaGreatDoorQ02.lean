/-
  decimal.Parse for every string and decimal.Format for every int (taken over from stage 2); Values as plain data: Check, Format, Parse and the order, and how they belong together; What the listed variables hold, as the walks use it; strconv.Atoi and Itoa
-/
import Derived.WalkSmall
import Derived.Lib.LaidTab
import Derived.WalkMore
import Derived.Deep.LoopGhost
import Derived.Lib.ItoaMem
import Derived.BigCall
import Derived.BigGuard
import Derived.Laws.Concat
import Derived.Lib.AtoiAllCases
import Derived.Lib.Strings
import Derived.Lib.Bytealg
import Derived.Lib.Small
import Derived.Test.YtbahfelnbofjjaaGreatDoorQ01
import Derived.Test.YtbahfelnbofjjaaGreatDoorShelf
namespace Go.Proofs.YtbahfelnbofjjaaGreatDoor.dec
open Go.RowKit Go.Shelf

/-- decimal.withDigit. -/
def wd (n d : Int) : Int := if 115292150460684697 < n then 1152921504606846977 else 10 * n + d
theorem wd_range {n d : Int} (n0 : 0 ≤ n) (d0 : 0 ≤ d) (d9 : d ≤ 9) : 0 ≤ wd n d ∧ wd n d ≤ 1152921504606846979 := by unfold wd; split <;> omega
theorem withDigit_any (n d : Int) (w : World) (n0 : 0 ≤ n) (d0 : 0 ≤ d) (d9 : d ≤ 9) :
    Calls Tryz.prog 257 #[.int .i64 n, .int .i64 d] w fun e w' => e = .returned (.int .i64 (wd n d)) ∧ w = w' := by
  by_cases h : 115292150460684697 < n
  · have e : Hid (wd n d = 1152921504606846977) := if_pos h
    go_enter Tryz.func257, Tryz.ntmps257
    go_wp2
    go_ret
    exact ⟨by rw [e.out]; rfl, rfl⟩
  · have e : Hid (wd n d = 10 * n + d) := if_neg h
    go_enter Tryz.func257, Tryz.ntmps257
    go_wp2
    go_ret
    exact ⟨by rw [e.out]; rfl, rfl⟩

/-- The byte at a place, as a number; 0 beyond the end. -/
def byteAt (l : List UInt8) (i : Nat) : Int := ((l.getD i 0).toNat : Int)
/-- The loop of decimal.readDigits, from the place i on: where it ends, the number, and the point's place (the length while there is none). -/
def rd (l : List UInt8) : Nat → Nat → Int → Nat → Nat × Int × Nat
  | 0, i, n, p => (i, n, p)
  | k + 1, i, n, p =>
    if i < l.length then
      if 48 ≤ byteAt l i ∧ byteAt l i ≤ 57 then rd l k (i + 1) (wd n (byteAt l i - 48)) p
      else if byteAt l i = 46 ∧ p = l.length then rd l k (i + 1) n i
      else (i, n, p)
    else (i, n, p)
/-- What decimal.readDigits answers: the number, the digits behind the point, and whether the string is a decimal. -/
def rdEnd (len : Nat) (r : Nat × Int × Nat) : Int × Int × Bool :=
  if r.1 < len ∨ r.2.2 = 0 then (0, 0, false)
  else if r.2.2 = len then (r.2.1, 0, true)
  else if (len : Int) - r.2.2 - 1 < 1 ∨ 6 < (len : Int) - r.2.2 - 1 then (0, 0, false)
  else (r.2.1, (len : Int) - r.2.2 - 1, true)
def rdAll (l : List UInt8) : Int × Int × Bool := rdEnd l.length (rd l l.length 0 0 l.length)

theorem byteAt_eq (s : ByteArray) (i : Nat) (hi : i < s.size) : ((s[i]'hi).toNat : Int) = byteAt s.data.toList i := by
  unfold byteAt
  rw [← Lib.getD_at s i hi]
theorem byteAt_range (l : List UInt8) (i : Nat) : 0 ≤ byteAt l i ∧ byteAt l i ≤ 255 := by
  unfold byteAt
  have := UInt8.toNat_lt (l.getD i 0)
  omega

theorem rd_digit {l : List UInt8} {N i p : Nat} {n : Int} (hN : l.length = N) (h : i < N) (h1 : 48 ≤ byteAt l i) (h2 : byteAt l i ≤ 57) :
    rd l (N - i) i n p = rd l (N - (i + 1)) (i + 1) (wd n (byteAt l i - 48)) p := by
  obtain ⟨k, hk⟩ : ∃ k, N - i = k + 1 := ⟨N - i - 1, by omega⟩
  have hk' : N - (i + 1) = k := by omega
  rw [hk, hk', rd, if_pos (by omega), if_pos ⟨h1, h2⟩]
theorem rd_point {l : List UInt8} {N i p : Nat} {n : Int} (hN : l.length = N) (h : i < N) (h1 : byteAt l i = 46) (h2 : p = N) :
    rd l (N - i) i n p = rd l (N - (i + 1)) (i + 1) n i := by
  obtain ⟨k, hk⟩ : ∃ k, N - i = k + 1 := ⟨N - i - 1, by omega⟩
  have hk' : N - (i + 1) = k := by omega
  rw [hk, hk', rd, if_pos (by omega), if_neg (by omega), if_pos ⟨h1, by omega⟩]
theorem rd_stop {l : List UInt8} {N i p : Nat} {n : Int} (hN : l.length = N) (h : i < N) (h1 : ¬ (48 ≤ byteAt l i ∧ byteAt l i ≤ 57)) (h2 : ¬ (byteAt l i = 46 ∧ p = N)) :
    rd l (N - i) i n p = (i, n, p) := by
  obtain ⟨k, hk⟩ : ∃ k, N - i = k + 1 := ⟨N - i - 1, by omega⟩
  rw [hk, rd, if_pos (by omega), if_neg h1, if_neg (by omega)]
theorem rd_done {l : List UInt8} {N i p : Nat} {n : Int} (h : N ≤ i) : rd l (N - i) i n p = (i, n, p) := by
  rw [show N - i = 0 by omega, rd]

set_option maxHeartbeats 1000000 in
theorem readDigits_any (s : ByteArray) (w : World) (hs : s.size ≤ 9223372036854775806) :
    Calls Tryz.prog 201 #[.string s] w fun e w' =>
      e = .returned (.tuple #[.int .i64 (rdAll s.data.toList).1, .int .i64 (rdAll s.data.toList).2.1, .bool (rdAll s.data.toList).2.2]) ∧ w = w' := by
  have hlen : s.data.toList.length = s.size := by rw [Lib.size_eq]
  obtain ⟨R, hR⟩ : ∃ R, R = rd s.data.toList s.size 0 0 s.size := ⟨_, rfl⟩
  have hall : Hid (rdAll s.data.toList = rdEnd s.size R) := by unfold Hid rdAll; rw [hlen, hR]
  have HL := Lib.hid hlen
  have HR := Lib.hid hR
  clear hlen hR
  go_enter Tryz.func201, Tryz.ntmps201
  go_wp2
  go_step3
  go_wp2
  go_step3
  go_upto_block 0 with fail
  go_cut [2, 5, 6] (fun vn vp vi wx => ∃ (i p : Nat) (n : Int), i ≤ s.size ∧ p ≤ s.size ∧ 0 ≤ n ∧ n ≤ 1152921504606846979 ∧ vn = .int .i64 n ∧ vp = .int .i64 p ∧ vi = .int .i64 i ∧ Hid (R = (i, n, p)) ∧ wx = w)
  case first =>
    go_wp2
    go_loop [2, 5, 6] (fun vn vp vi => ∃ (i p : Nat) (n : Int), i ≤ s.size ∧ p ≤ s.size ∧ 0 ≤ n ∧ n ≤ 1152921504606846979 ∧ vn = .int .i64 n ∧ vp = .int .i64 p ∧ vi = .int .i64 i ∧ Hid (R = rd s.data.toList (s.size - i) i n p)) (fun _ _ vi => s.size - (intOf vi).toNat)
    case atStart => exact ⟨0, s.size, 0, by omega, by omega, by omega, by omega, rfl, rfl, rfl, by unfold Hid; rw [HR.out]; rfl⟩
    case round =>
      obtain ⟨i, p, n, hi, hp, n0, n1, rfl, rfl, rfl, hrd⟩ := hrel
      by_cases hl : i < s.size
      · obtain ⟨c, hc⟩ : ∃ c, c = byteAt s.data.toList i := ⟨_, rfl⟩
        have hX : ∀ w, (Instr.index 9 (.string s) (.int .i64 (i : Int))).run Tryz.prog w = .ok (.int .u8 c) w := fun w => by
          rw [run_index_string w _ s .i64 _ Tryz.underlying9, dif_pos ⟨by omega, by omega⟩, hc, ← byteAt_eq s i hl]
          rfl
        have hr := byteAt_range s.data.toList i
        rw [← hc] at hr
        obtain ⟨r0, r1⟩ := hr
        have HC := Lib.hid hc
        clear hc
        by_cases c1 : 48 ≤ c
        · by_cases c2 : c ≤ 57
          · have HD : Hid (R = rd s.data.toList (s.size - (i + 1)) (i + 1) (wd n (c - 48)) p) := by
              unfold Hid; rw [hrd.out, rd_digit HL.out hl (by rw [← HC.out]; exact c1) (by rw [← HC.out]; exact c2), ← HC.out]
            have hw := wd_range (n := n) (d := c - 48) n0 (by omega) (by omega)
            have c1' : decide (48 ≤ c) = true := by simpa using c1
            have c2' : decide (c ≤ 57) = true := by simpa using c2
            go_wp2_with (go_at_call 257; refine (withDigit_any n (c - 48) _ n0 (by omega) (by omega)).mono ?_; rintro e w' ⟨rfl, rfl⟩)
            exact ⟨⟨i + 1, p, wd n (c - 48), by omega, hp, hw.1, hw.2, rfl, rfl, by congr 1, HD⟩, by simp [intOf]; omega⟩
          · have HD : Hid (R = (i, n, p)) := by
              unfold Hid; rw [hrd.out, rd_stop HL.out hl (by rw [← HC.out]; omega) (by rw [← HC.out]; omega)]
            have c1' : decide (48 ≤ c) = true := by simpa using c1
            have c2' : decide (c ≤ 57) = false := by simp; omega
            have c3' : (c == 46) = false := by rw [beq_eq_false_iff_ne]; omega
            go_wp2
            go_meet
            exact ⟨i, p, n, hi, hp, n0, n1, rfl, rfl, rfl, HD, rfl⟩
        · have c1' : decide (48 ≤ c) = false := by simp; omega
          by_cases c3 : c = 46
          · by_cases c4 : p = s.size
            · have HD : Hid (R = rd s.data.toList (s.size - (i + 1)) (i + 1) n i) := by
                unfold Hid; rw [hrd.out, rd_point HL.out hl (by rw [← HC.out]; exact c3) c4]
              subst c3
              subst c4
              go_wp2
              exact ⟨⟨i + 1, i, n, by omega, by omega, n0, n1, rfl, rfl, by congr 1, HD⟩, by simp [intOf]; omega⟩
            · have HD : Hid (R = (i, n, p)) := by
                unfold Hid; rw [hrd.out, rd_stop HL.out hl (by rw [← HC.out]; omega) (by rw [← HC.out]; omega)]
              have c4' : ((p : Int) == (s.size : Int)) = false := by rw [beq_eq_false_iff_ne]; omega
              subst c3
              go_wp2
              go_meet
              exact ⟨i, p, n, hi, hp, n0, n1, rfl, rfl, rfl, HD, rfl⟩
          · have HD : Hid (R = (i, n, p)) := by
              unfold Hid; rw [hrd.out, rd_stop HL.out hl (by rw [← HC.out]; omega) (by rw [← HC.out]; omega)]
            have c3' : (c == 46) = false := by rw [beq_eq_false_iff_ne]; omega
            go_wp2
            go_meet
            exact ⟨i, p, n, hi, hp, n0, n1, rfl, rfl, rfl, HD, rfl⟩
      · have HD : Hid (R = (i, n, p)) := by
          unfold Hid; rw [hrd.out, rd_done (by omega)]
        go_wp2
        go_meet
        exact ⟨i, p, n, hi, hp, n0, n1, rfl, rfl, rfl, HD, rfl⟩
  case rest =>
    obtain ⟨i, p, n, hi, hp, n0, n1, rfl, rfl, rfl, hR, rfl⟩ := hcut
    have hall2 : Hid (rdAll s.data.toList = rdEnd s.size (i, n, p)) := by unfold Hid; rw [hall.out, hR.out]
    clear hall hR HR HL
    by_cases d1 : i < s.size
    · have E : Hid (rdAll s.data.toList = (0, 0, false)) := by unfold Hid; rw [hall2.out]; unfold rdEnd; rw [if_pos (.inl d1)]
      go_wp2
      try rw [Exit.noGoto_ret]
      go_ret3
      exact ⟨by rw [E.out]; rfl, rfl⟩
    · by_cases d2 : p = 0
      · have E : Hid (rdAll s.data.toList = (0, 0, false)) := by unfold Hid; rw [hall2.out]; unfold rdEnd; rw [if_pos (.inr d2)]
        subst d2
        go_wp2
        try rw [Exit.noGoto_ret]
        go_ret3
        exact ⟨by rw [E.out]; rfl, rfl⟩
      · have d2' : ((p : Int) == 0) = false := by rw [beq_eq_false_iff_ne]; omega
        by_cases d3 : p = s.size
        · have E : Hid (rdAll s.data.toList = (n, 0, true)) := by unfold Hid; rw [hall2.out]; unfold rdEnd; rw [if_neg (by simp only; omega), if_pos d3]
          subst d3
          go_wp2
          try rw [Exit.noGoto_ret]
          go_ret3
          exact ⟨by rw [E.out]; rfl, rfl⟩
        · have d3' : ((p : Int) == (s.size : Int)) = false := by rw [beq_eq_false_iff_ne]; omega
          by_cases d4 : (s.size : Int) - p - 1 < 1
          · have E : Hid (rdAll s.data.toList = (0, 0, false)) := by unfold Hid; rw [hall2.out]; unfold rdEnd; rw [if_neg (by simp only; omega), if_neg d3, if_pos (.inl d4)]
            go_wp2
            try rw [Exit.noGoto_ret]
            go_ret3
            exact ⟨by rw [E.out]; rfl, rfl⟩
          · have d4' : decide ((s.size : Int) - p - 1 < 1) = false := by simpa using d4
            by_cases d5 : 6 < (s.size : Int) - p - 1
            · have E : Hid (rdAll s.data.toList = (0, 0, false)) := by unfold Hid; rw [hall2.out]; unfold rdEnd; rw [if_neg (by simp only; omega), if_neg d3, if_pos (.inr d5)]
              go_wp2
              try rw [Exit.noGoto_ret]
              go_ret3
              exact ⟨by rw [E.out]; rfl, rfl⟩
            · have d5' : decide (6 < (s.size : Int) - p - 1) = false := by simpa using d5
              have E : Hid (rdAll s.data.toList = (n, (s.size : Int) - p - 1, true)) := by unfold Hid; rw [hall2.out]; unfold rdEnd; rw [if_neg (by simp only; omega), if_neg d3, if_neg (by simp only; omega)]
              go_wp2
              try rw [Exit.noGoto_ret]
              go_ret3
              exact ⟨by rw [E.out]; rfl, rfl⟩
end Go.Proofs.YtbahfelnbofjjaaGreatDoor.dec

namespace Go.Proofs.YtbahfelnbofjjaaGreatDoor.dec
open Go.RowKit Go.Shelf

theorem rd_range (l : List UInt8) : ∀ (k i : Nat) (n : Int) (p : Nat), 0 ≤ n → n ≤ 1152921504606846979 → 0 ≤ (rd l k i n p).2.1 ∧ (rd l k i n p).2.1 ≤ 1152921504606846979
  | 0, _, _, _, h0, h1 => ⟨h0, h1⟩
  | k + 1, i, n, p, h0, h1 => by
    rw [rd]
    split
    · split
      · rename_i hd
        have hw := wd_range (n := n) (d := byteAt l i - 48) h0 (by omega) (by omega)
        exact rd_range l k (i + 1) _ p hw.1 hw.2
      · split
        · exact rd_range l k (i + 1) n i h0 h1
        · exact ⟨h0, h1⟩
    · exact ⟨h0, h1⟩
theorem rdAll_range (l : List UInt8) : 0 ≤ (rdAll l).1 ∧ (rdAll l).1 ≤ 1152921504606846979 ∧ 0 ≤ (rdAll l).2.1 ∧ (rdAll l).2.1 ≤ 6 := by
  have h := rd_range l l.length 0 0 l.length (by omega) (by omega)
  unfold rdAll rdEnd
  split
  · simp
  · split
    · exact ⟨h.1, h.2, by simp, by simp⟩
    · split
      · simp
      · exact ⟨h.1, h.2, by simp only; omega, by simp only; omega⟩

/-- The table decimal.powers. -/
def powTab : List Int := [1, 10, 100, 1000, 10000, 100000, 1000000]
theorem gPow : Tryz.prog.globalNamed "asof/decimal.powers" = some 2 := by kernel_rfl
theorem pow_range {a : Int} (h0 : 0 ≤ a) (h6 : a ≤ 6) : 1 ≤ powTab.getD (6 - a).toNat 0 ∧ powTab.getD (6 - a).toNat 0 ≤ 1000000 := by
  obtain h | h | h | h | h | h | h : a = 0 ∨ a = 1 ∨ a = 2 ∨ a = 3 ∨ a = 4 ∨ a = 5 ∨ a = 6 := by omega
  all_goals (subst h; decide)

/-- The millionths that a decimal's digits stand for. -/
def pmOf (l : List UInt8) : Int := (if Lib.hasPrefix l [45] then -(rdAll (Lib.trimPrefix l [45])).1 else (rdAll (Lib.trimPrefix l [45])).1) * powTab.getD (6 - (rdAll (Lib.trimPrefix l [45])).2.1).toNat 0
/-- What decimal.Parse answers: the number and the error. -/
def paX (l : List UInt8) : Int := if (rdAll (Lib.trimPrefix l [45])).2.2 && rg (pmOf l) then pmOf l else 0
def paE (l : List UInt8) : Int := if (rdAll (Lib.trimPrefix l [45])).2.2 then (if rg (pmOf l) then 0 else 2) else 3

theorem parse_core (s t : ByteArray) (neg ok : Bool) (n a P m X E : Int) (w : World)
    (CC : Hid (Calls Tryz.prog 200 #[.string s, .string ⟨#[45]⟩] w fun e w' => e = .returned (.tuple #[.string t, .bool neg]) ∧ w' = w))
    (CR : Hid (Calls Tryz.prog 201 #[.string t] w fun e w' => e = .returned (.tuple #[.int .i64 n, .int .i64 a, .bool ok]) ∧ w = w'))
    (n0 : 0 ≤ n) (n1 : n ≤ 1152921504606846979) (a0 : 0 ≤ a) (a6 : a ≤ 6) (P1 : 1 ≤ P) (P2 : P ≤ 1000000)
    (hc : w.cell? ⟨2, (6 - a).toNat, none⟩ = some (.int .i64 P))
    (hm : Hid (m = (if neg then -n else n) * P)) (hX : Hid (X = if ok && rg m then m else 0)) (hE : Hid (E = if ok then (if rg m then 0 else 2) else 3)) :
    Calls Tryz.prog 144 #[.string s] w fun e w' => e = .returned (.tuple #[.int .i64 X, .int .i64 E]) ∧ Below w.heap.size w w' := by
  cases ok
  · have eX : Hid (X = 0) := by unfold Hid; rw [hX.out]; rfl
    have eE : Hid (E = 3) := by unfold Hid; rw [hE.out]; rfl
    go_enter Tryz.func144, Tryz.ntmps144
    go_wp2_with (first
      | (go_at_call 200; refine CC.out.mono ?_; rintro e w' ⟨rfl, rfl⟩)
      | (go_at_call 201; refine CR.out.mono ?_; rintro e w' ⟨rfl, rfl⟩))
    go_ret2
    exact ⟨by rw [eX.out, eE.out]; rfl, b0 _⟩
  · cases neg
    · have em : Hid (n * P = m) := by unfold Hid; rw [hm.out]; rfl
      have im : In m := by rw [← em.out]; exact mul_in (by omega) (by omega) (by omega) (by omega)
      cases hr : rg m
      · have eX : Hid (X = 0) := by unfold Hid; rw [hX.out, hr]; rfl
        have eE : Hid (E = 2) := by unfold Hid; rw [hE.out, hr]; rfl
        go_enter Tryz.func144, Tryz.ntmps144
        go_wp2_with (first
          | (go_at_call 200; refine CC.out.mono ?_; rintro e w' ⟨rfl, rfl⟩)
          | (go_at_call 201; refine CR.out.mono ?_; rintro e w' ⟨rfl, rfl⟩))
        refine (mul_u n P _ (by omega) (by omega) (by omega) (by omega)).mono ?_
        rw [em.out]
        rintro e w1 ⟨rfl, k1⟩
        go_wp2_with fail
        refine (checked_any im _).mono ?_
        rw [hr]
        rintro e w2 ⟨rfl, k2⟩
        replace k2 := bnext k1 k2
        go_wp2_with fail
        go_ret2
        exact ⟨by rw [eX.out, eE.out]; rfl, k2⟩
      · have eX : Hid (X = m) := by unfold Hid; rw [hX.out, hr]; rfl
        have eE : Hid (E = 0) := by unfold Hid; rw [hE.out, hr]; rfl
        go_enter Tryz.func144, Tryz.ntmps144
        go_wp2_with (first
          | (go_at_call 200; refine CC.out.mono ?_; rintro e w' ⟨rfl, rfl⟩)
          | (go_at_call 201; refine CR.out.mono ?_; rintro e w' ⟨rfl, rfl⟩))
        refine (mul_u n P _ (by omega) (by omega) (by omega) (by omega)).mono ?_
        rw [em.out]
        rintro e w1 ⟨rfl, k1⟩
        go_wp2_with fail
        refine (checked_any im _).mono ?_
        rw [hr, kx_yes hr]
        rintro e w2 ⟨rfl, k2⟩
        replace k2 := bnext k1 k2
        go_wp2_with fail
        go_ret2
        exact ⟨by rw [eX.out, eE.out]; rfl, k2⟩
    · have em : Hid (-n * P = m) := by unfold Hid; rw [hm.out]; rfl
      have im : In m := by rw [← em.out]; exact mul_in (by omega) (by omega) (by omega) (by omega)
      cases hr : rg m
      · have eX : Hid (X = 0) := by unfold Hid; rw [hX.out, hr]; rfl
        have eE : Hid (E = 2) := by unfold Hid; rw [hE.out, hr]; rfl
        go_enter Tryz.func144, Tryz.ntmps144
        go_wp2_with (first
          | (go_at_call 200; refine CC.out.mono ?_; rintro e w' ⟨rfl, rfl⟩)
          | (go_at_call 201; refine CR.out.mono ?_; rintro e w' ⟨rfl, rfl⟩))
        refine (mul_u (-n) P _ (by omega) (by omega) (by omega) (by omega)).mono ?_
        rw [em.out]
        rintro e w1 ⟨rfl, k1⟩
        go_wp2_with fail
        refine (checked_any im _).mono ?_
        rw [hr]
        rintro e w2 ⟨rfl, k2⟩
        replace k2 := bnext k1 k2
        go_wp2_with fail
        go_ret2
        exact ⟨by rw [eX.out, eE.out]; rfl, k2⟩
      · have eX : Hid (X = m) := by unfold Hid; rw [hX.out, hr]; rfl
        have eE : Hid (E = 0) := by unfold Hid; rw [hE.out, hr]; rfl
        go_enter Tryz.func144, Tryz.ntmps144
        go_wp2_with (first
          | (go_at_call 200; refine CC.out.mono ?_; rintro e w' ⟨rfl, rfl⟩)
          | (go_at_call 201; refine CR.out.mono ?_; rintro e w' ⟨rfl, rfl⟩))
        refine (mul_u (-n) P _ (by omega) (by omega) (by omega) (by omega)).mono ?_
        rw [em.out]
        rintro e w1 ⟨rfl, k1⟩
        go_wp2_with fail
        refine (checked_any im _).mono ?_
        rw [hr, kx_yes hr]
        rintro e w2 ⟨rfl, k2⟩
        replace k2 := bnext k1 k2
        go_wp2_with fail
        go_ret2
        exact ⟨by rw [eX.out, eE.out]; rfl, k2⟩

theorem parse_any (s : ByteArray) (w : World) (hs : s.size ≤ 9223372036854775806) (hp : Lib.TabIs Tryz.prog w "asof/decimal.powers" .i64 powTab) :
    Calls Tryz.prog 144 #[.string s] w fun e w' => e = .returned (.tuple #[.int .i64 (paX s.data.toList), .int .i64 (paE s.data.toList)]) ∧ Below w.heap.size w w' := by
  obtain ⟨t, ht⟩ : ∃ t : ByteArray, t = ⟨(Lib.trimPrefix s.data.toList (⟨#[45]⟩ : ByteArray).data.toList).toArray⟩ := ⟨_, rfl⟩
  have htl : t.data.toList = Lib.trimPrefix s.data.toList [45] := by rw [ht]
  have hts : t.size ≤ 9223372036854775806 := by
    have h1 : t.size = t.data.toList.length := (Lib.size_eq t)
    have h2 := Lib.trimPrefix_le s.data.toList [45]
    have h3 : s.size = s.data.toList.length := (Lib.size_eq s)
    rw [htl] at h1
    omega
  have CR := readDigits_any t w hts
  rw [htl] at CR
  have CC := Tryz.strings_CutPrefix s ⟨#[45]⟩ w
  rw [← ht] at CC
  obtain ⟨n0, n1, a0, a6⟩ := rdAll_range (Lib.trimPrefix s.data.toList [45])
  have hc := hp.cell gPow (6 - (rdAll (Lib.trimPrefix s.data.toList [45])).2.1).toNat (by show _ < 7; omega)
  have hPr := pow_range a0 a6
  exact parse_core s t _ _ _ _ _ _ _ w CC CR n0 n1 a0 a6 hPr.1 hPr.2 hc (m := pmOf s.data.toList) rfl rfl rfl
end Go.Proofs.YtbahfelnbofjjaaGreatDoor.dec

namespace Go.Proofs.YtbahfelnbofjjaaGreatDoor.dec
open Go.RowKit Go.Shelf Go.Sort Go.Lib

theorem holds_zero0 (w : World) (T : TypeId) (nd : Nat) (hs : nd ≤ 24) : Holds (fun (b : UInt8) => Value.int .u8 (b.toNat : Int)) (w.alloc (.cells Lib.zeros24 T)) w.heap.size 0 (Array.replicate nd (0 : UInt8)) := fun j hj => by
  have hj' : j < nd := by simpa using hj
  refine ⟨?_, World.frozen?_alloc_new _ _ _ _⟩
  rw [World.cell?_alloc_new, Lib.zeros24_at _ (by omega), getElem!_pos _ j hj]
  simp
theorem below_putRow (w : World) (o : Obj) (dk : Array UInt8) (k : Nat) : Below w.heap.size w ((putRow (fun (b : UInt8) => Value.int .u8 (b.toNat : Int)) (w.alloc o) w.heap.size 0 dk).drewN k) := by
  rw [alloc_eq_grow]
  obtain ⟨os', _, e⟩ := putRow_grow_new (fun (b : UInt8) => Value.int .u8 (b.toNat : Int)) w #[o] w.heap.size 0 dk (Nat.le_refl _)
  rw [e]
  have h : Below w.heap.size w (grow w os') := by
    exact below_regrown w w.drawn os'
  exact below_drewN' h k

set_option maxHeartbeats 3200000 in
set_option maxRecDepth 100000 in
theorem fmtIn_any (u : Nat) (hu64 : u < 18446744073709551616) (w : World) (htab : Lib.TabIs Tryz.prog w "internal/strconv.uint64pow10" .u64 Lib.pow10Tab) :
    Calls Tryz.prog 313 #[.int .u64 u, .int .i64 10] w fun e w' => e = .returned (.string ⟨(Lib.decDigits u).toArray⟩) ∧ Below w.heap.size w w' := by
  by_cases hs : u < 100
  · go_enter Tryz.func313, Tryz.ntmps313
    go_wp2_with (go_at_call 232; refine (Tryz.internal_strconv_small u hs _).mono ?_; rintro e w' ⟨rfl, rfl⟩)
    go_ret
    exact ⟨rfl, b0 _⟩
  · have hu1 : 1 ≤ u := by omega
    have hnd20 : Lib.nDigits u ≤ 20 := by have := Lib.numDigits_eq u hu1 hu64; split at this <;> omega
    have hb3 : Lib.nDigits u ≤ 24 := by omega
    have hal : Tryz.prog.arrayLen 235 = 24 := by kernel_rfl
    have hsl1 : ∀ W, (Instr.sliceAt 235 (.pointer (some ⟨w.heap.size, 0, none⟩)) none (some (.int .i64 (Lib.nDigits u : Int))) none).run Tryz.prog W = .ok (.slice (some ⟨w.heap.size, 0, none⟩) (Lib.nDigits u) 24) W := fun W => by
      rw [run_sliceAt_array_h W 235 ⟨w.heap.size, 0, none⟩ (by kernel_rfl) .i64 (Lib.nDigits u : Int) (by omega) (by rw [hal]; omega)]
      go_simp
    have hH0 := holds_zero0 w 235 (Lib.nDigits u) hb3
    have hfmt := Tryz.internal_strconv_formatBase10 w.heap.size 0 24 u (Array.replicate (Lib.nDigits u) 0) (w.alloc (.cells Lib.zeros24 235)) hH0 (by rw [Array.size_replicate]; exact Lib.lt_pow_nDigits u) hu64 (by rw [Array.size_replicate]; omega)
    rw [Array.size_replicate] at hfmt
    have HH0 := Lib.hid hH0
    clear hH0 hal
    go_enter Tryz.func313, Tryz.ntmps313
    go_wp2_with (first
      | (go_at_call 233; refine (Tryz.internal_strconv_numDigits u hu1 hu64 _ (Lib.tabIs_alloc htab _)).mono ?_; rintro e w' ⟨rfl, rfl⟩))
    go_at_call 234
    refine hfmt.mono ?_
    rintro e w' ⟨rfl, k, v', dk, rfl, hF⟩
    have hcv : (convert 56 9 (.slice (some ⟨w.heap.size, 0, none⟩) (Lib.nDigits u) 24)).run Tryz.prog ((putRow (fun (b : UInt8) => Value.int .u8 (b.toNat : Int)) (w.alloc (.cells Lib.zeros24 235)) w.heap.size 0 dk).drewN k) = .ok (.string ⟨(Lib.decDigits u).toArray⟩) ((putRow (fun (b : UInt8) => Value.int .u8 (b.toNat : Int)) (w.alloc (.cells Lib.zeros24 235)) w.heap.size 0 dk).drewN k) := by
      have h := run_convert_bytes_back (P := Tryz.prog) ((putRow (fun (b : UInt8) => Value.int .u8 (b.toNat : Int)) (w.alloc (.cells Lib.zeros24 235)) w.heap.size 0 dk).drewN k) 56 9 5 ⟨w.heap.size, 0, none⟩ 24 (Lib.decDigits u) Tryz.underlying56 Tryz.underlying5 Tryz.underlying9 (fun j hj => by
        rw [Lib.row_is_numeral hF j hj, Lib.add_plain, World.cell?_drewN]
        exact cell?_putRow (fun (b : UInt8) => Value.int .u8 (b.toNat : Int)) _ w.heap.size 0 _ dk HH0.out (by rw [hF.size, Array.size_replicate]) j (by rw [hF.size]; rw [Lib.decDigits_length] at hj; exact hj))
      rw [Lib.decDigits_length] at h
      exact h
    go_wp2
    go_ret
    exact ⟨rfl, below_putRow w _ dk k⟩

theorem fmt_any (u : Int) (h0 : 0 ≤ u) (h1 : u ≤ 18446744073709551615) (w : World) (htab : Lib.TabIs Tryz.prog w "internal/strconv.uint64pow10" .u64 Lib.pow10Tab) :
    Calls Tryz.prog 300 #[.int .u64 u, .int .i64 10] w fun e w' => e = .returned (.string ⟨(Lib.decDigits u.toNat).toArray⟩) ∧ Below w.heap.size w w' := by
  obtain ⟨n, rfl⟩ := Int.eq_ofNat_of_zero_le h0
  have CI := Lib.hid (fmtIn_any n (by omega) w htab)
  go_enter Tryz.func300, Tryz.ntmps300
  go_wp2_with fail
  refine CI.out.mono ?_
  rintro e w1 ⟨rfl, k1⟩
  go_wp2_with fail
  go_ret
  exact ⟨rfl, k1⟩
end Go.Proofs.YtbahfelnbofjjaaGreatDoor.dec

namespace Go.Proofs.YtbahfelnbofjjaaGreatDoor.dec
open Go.RowKit Go.Shelf Go.Sort Go.Lib

/-- What decimal.Format answers. -/
def foX (x : Int) : List UInt8 := (if x < 0 then [45] else []) ++ Lib.decDigits (x.natAbs / 1000000) ++ [46] ++ (Lib.decDigits (1000000 + x.natAbs % 1000000)).drop 1

theorem dig_len (u : Nat) (h : u < 18446744073709551616) : 1 ≤ (Lib.decDigits u).length ∧ (Lib.decDigits u).length ≤ 20 := by
  rw [Lib.decDigits_length]
  refine ⟨Lib.nDigits_pos u, ?_⟩
  by_cases hu : 1 ≤ u
  · have := Lib.numDigits_eq u hu h; split at this <;> omega
  · rw [Lib.nDigits_small (by omega)]; decide
theorem slice_one (l : List UInt8) (h : 1 ≤ l.length) (W : World) : (Instr.slice 9 (.string ⟨l.toArray⟩) (some (.int .i64 1)) none none).run Tryz.prog W = .ok (.string ⟨(l.drop 1).toArray⟩) W := by
  have e : (ByteArray.mk l.toArray).size = l.length := by show l.toArray.size = _; simp
  rw [run_slice_string_from_if W 9 ⟨l.toArray⟩ .i64 _ Tryz.underlying9, if_pos ⟨by omega, by rw [e]; omega⟩]
  congr 2
  apply ByteArray.ext
  apply Array.ext'
  rw [Lib.extract_data]
  simp only [e]
  show ((l.toArray.toList.drop 1).take (l.length - 1)) = _
  rw [List.take_of_length_le (by simp)]
theorem add_lists (x y : List UInt8) (hx : x.length ≤ 100) (hy : y.length ≤ 100) (W : World) : (Op.stringOp .add ⟨x.toArray⟩ ⟨y.toArray⟩).run Tryz.prog W = .ok (.string ⟨(x ++ y).toArray⟩) W := run_string_add_lists W x y (by omega) (by omega)

theorem abs_wrap {x : Int} (h1 : -9223372036854775808 ≤ x) (h2 : x ≤ 9223372036854775807) :
    (x < 0 → IntKind.u64.wrap (-IntKind.u64.wrap x) = (x.natAbs : Int)) ∧ (0 ≤ x → IntKind.u64.wrap x = (x.natAbs : Int)) := by
  rw [IntKind.wrap_u64, IntKind.wrap_u64]
  constructor
  · intro h; omega
  · intro h; omega

theorem tab_stays {w w' : World} {n : String} {k : IntKind} {zs : List Int} (h : Lib.TabIs Tryz.prog w n k zs) (hb : Below w.heap.size w w') : Lib.TabIs Tryz.prog w' n k zs := by
  unfold Lib.TabIs at *
  cases hg : Tryz.prog.globalNamed n with
  | none => unfold World.var? at h; simp [hg] at h
  | some g => exact Go.Joins.var_stays hg h hb (Nat.le_refl _)

set_option maxHeartbeats 1000000 in
theorem format_any (x : Int) (h1 : -9223372036854775808 ≤ x) (h2 : x ≤ 9223372036854775807) (w : World) (htab : Lib.TabIs Tryz.prog w "internal/strconv.uint64pow10" .u64 Lib.pow10Tab) :
    Calls Tryz.prog 269 #[.int .i64 x] w fun e w' => e = .returned (.string ⟨(foX x).toArray⟩) ∧ Below w.heap.size w w' := by
  have haw := abs_wrap h1 h2
  obtain ⟨u, hu⟩ : ∃ u : Nat, u = x.natAbs := ⟨_, rfl⟩
  have hu64 : u ≤ 9223372036854775808 := by omega
  have hf : Hid (foX x = (if x < 0 then [45] else []) ++ Lib.decDigits (u / 1000000) ++ [46] ++ (Lib.decDigits (1000000 + u % 1000000)).drop 1) := by unfold Hid foX; rw [← hu]
  rw [← hu] at haw
  have CA := Lib.hid (fmt_any ((1000000 + u % 1000000 : Nat) : Int) (by omega) (by omega) w htab)
  have CB := Lib.hid (fun w' hb => fmt_any ((u / 1000000 : Nat) : Int) (by omega) (by omega) w' (tab_stays htab hb))
  have la := dig_len (1000000 + u % 1000000) (by omega)
  have lb := dig_len (u / 1000000) (by omega)
  have e1 : (((1000000 + u % 1000000 : Nat) : Int)).toNat = 1000000 + u % 1000000 := by omega
  have e2 : (((u / 1000000 : Nat) : Int)).toNat = u / 1000000 := by omega
  rw [e1] at CA
  rw [e2] at CB
  clear e1 e2 hu
  generalize Lib.decDigits (1000000 + u % 1000000) = a at *
  generalize Lib.decDigits (u / 1000000) = b at *
  have hsl := slice_one a la.1
  have q1 : ((1000000 + u % 1000000 : Nat) : Int) = 1000000 + (u : Int) % 1000000 := by omega
  have q2 : ((u / 1000000 : Nat) : Int) = (u : Int) / 1000000 := by omega
  rw [q1] at CA
  rw [q2] at CB
  clear q1 q2
  have hl3 : (a.drop 1).length ≤ 20 := by simp; omega
  generalize a.drop 1 = c at *
  by_cases hx : x < 0
  · have hw := haw.1 hx
    obtain ⟨d1, hd1⟩ : ∃ d1 : List UInt8, d1 = [45] ++ b := ⟨_, rfl⟩
    obtain ⟨d2, hd2⟩ : ∃ d2 : List UInt8, d2 = d1 ++ [46] := ⟨_, rfl⟩
    obtain ⟨d3, hd3⟩ : ∃ d3 : List UInt8, d3 = d2 ++ c := ⟨_, rfl⟩
    have l1 : d1.length ≤ 21 := by rw [hd1]; simp; omega
    have l2 : d2.length ≤ 22 := by rw [hd2]; simp; omega
    have p1 : ∀ W, (Op.stringOp .add ⟨#[45]⟩ ⟨b.toArray⟩).run Tryz.prog W = .ok (.string ⟨d1.toArray⟩) W := fun W => by rw [hd1]; exact add_lists [45] b (by simp) (by omega) W
    have p2 : ∀ W, (Op.stringOp .add ⟨d1.toArray⟩ ⟨#[46]⟩).run Tryz.prog W = .ok (.string ⟨d2.toArray⟩) W := fun W => by rw [hd2]; exact add_lists d1 [46] (by omega) (by simp) W
    have p3 : ∀ W, (Op.stringOp .add ⟨d2.toArray⟩ ⟨c.toArray⟩).run Tryz.prog W = .ok (.string ⟨d3.toArray⟩) W := fun W => by rw [hd3]; exact add_lists d2 c (by omega) (by omega) W
    have hf2 : Hid (foX x = d3) := by unfold Hid; rw [hf.out, if_pos hx, hd3, hd2, hd1]
    clear hf haw hd1 hd2 hd3
    go_enter Tryz.func269, Tryz.ntmps269
    go_wp2_with fail
    refine CA.out.mono ?_
    rintro e w1 ⟨rfl, k1⟩
    go_wp2_with fail
    refine (CB.out _ k1).mono ?_
    rintro e w2 ⟨rfl, k2⟩
    replace k2 := bnext k1 k2
    go_wp2_with fail
    go_ret
    exact ⟨by rw [hf2.out]; rfl, k2⟩
  · have hw := haw.2 (by omega)
    obtain ⟨d1, hd1⟩ : ∃ d1 : List UInt8, d1 = [] ++ b := ⟨_, rfl⟩
    obtain ⟨d2, hd2⟩ : ∃ d2 : List UInt8, d2 = d1 ++ [46] := ⟨_, rfl⟩
    obtain ⟨d3, hd3⟩ : ∃ d3 : List UInt8, d3 = d2 ++ c := ⟨_, rfl⟩
    have l1 : d1.length ≤ 21 := by rw [hd1]; simp; omega
    have l2 : d2.length ≤ 22 := by rw [hd2]; simp; omega
    have p1 : ∀ W, (Op.stringOp .add ⟨#[]⟩ ⟨b.toArray⟩).run Tryz.prog W = .ok (.string ⟨d1.toArray⟩) W := fun W => by rw [hd1]; exact add_lists [] b (by simp) (by omega) W
    have p2 : ∀ W, (Op.stringOp .add ⟨d1.toArray⟩ ⟨#[46]⟩).run Tryz.prog W = .ok (.string ⟨d2.toArray⟩) W := fun W => by rw [hd2]; exact add_lists d1 [46] (by omega) (by simp) W
    have p3 : ∀ W, (Op.stringOp .add ⟨d2.toArray⟩ ⟨c.toArray⟩).run Tryz.prog W = .ok (.string ⟨d3.toArray⟩) W := fun W => by rw [hd3]; exact add_lists d2 c (by omega) (by omega) W
    have hf2 : Hid (foX x = d3) := by unfold Hid; rw [hf.out, if_neg hx, hd3, hd2, hd1]
    clear hf haw hd1 hd2 hd3
    go_enter Tryz.func269, Tryz.ntmps269
    go_wp2_with fail
    refine CA.out.mono ?_
    rintro e w1 ⟨rfl, k1⟩
    go_wp2_with fail
    refine (CB.out _ k1).mono ?_
    rintro e w2 ⟨rfl, k2⟩
    replace k2 := bnext k1 k2
    go_wp2_with fail
    go_ret
    exact ⟨by rw [hf2.out]; rfl, k2⟩
end Go.Proofs.YtbahfelnbofjjaaGreatDoor.dec
namespace Go.Proofs.YtbahfelnbofjjaaGreatDoor
open dec

/-- The number that digits form behind a. -/
def dval (a : Nat) (l : List UInt8) : Nat := l.foldl (fun a c => a * 10 + (c.toNat - 48)) a
def isD (c : UInt8) : Bool := decide (48 ≤ c.toNat) && decide (c.toNat ≤ 57)
theorem isD_iff (c : UInt8) : isD c = true ↔ 48 ≤ c.toNat ∧ c.toNat ≤ 57 := by unfold isD; rw [Bool.and_eq_true, decide_eq_true_eq, decide_eq_true_eq]
theorem dval_cons (a : Nat) (c : UInt8) (l : List UInt8) : dval a (c :: l) = dval (a * 10 + (c.toNat - 48)) l := by unfold dval; rw [List.foldl_cons]
theorem dval_append (a : Nat) (l r : List UInt8) : dval a (l ++ r) = dval (dval a l) r := by unfold dval; rw [List.foldl_append]
theorem dval_ge : ∀ (l : List UInt8) (a : Nat), a ≤ dval a l
  | [], a => Nat.le_refl a
  | c :: l, a => by
    have := dval_ge l (a * 10 + (c.toNat - 48))
    rw [dval_cons]
    omega
theorem dig_nat {d : Nat} (h : d < 10) : (UInt8.ofNat (48 + d)).toNat = 48 + d := by
  rw [UInt8.toNat_ofNat']
  omega
theorem dec_dval (u : Nat) : dval 0 (Lib.decDigits u) = u := by
  induction u using Nat.strongRecOn with
  | _ u ih =>
    by_cases h : u < 10
    · rw [Lib.decDigits, dif_pos h, dval_cons, dig_nat h]
      show 0 * 10 + (48 + u - 48) = u
      omega
    · rw [Lib.decDigits, dif_neg h, dval_append, ih (u / 10) (by omega), dval_cons, dig_nat (by omega)]
      show u / 10 * 10 + (48 + u % 10 - 48) = u
      omega
theorem dec_isD (u : Nat) : ∀ c ∈ Lib.decDigits u, isD c = true := by
  induction u using Nat.strongRecOn with
  | _ u ih =>
    intro c hc
    by_cases h : u < 10
    · rw [Lib.decDigits, dif_pos h, List.mem_singleton] at hc
      subst hc
      rw [isD_iff, dig_nat h]
      omega
    · rw [Lib.decDigits, dif_neg h, List.mem_append, List.mem_singleton] at hc
      rcases hc with hc | hc
      · exact ih (u / 10) (by omega) c hc
      · subst hc
        rw [isD_iff, dig_nat (by omega)]
        omega
theorem dec_cons (u : Nat) : ∃ c r, Lib.decDigits u = c :: r := by
  have h : (Lib.decDigits u).length = Lib.nDigits u := Lib.decDigits_length u
  have := Lib.nDigits_pos u
  cases hd : Lib.decDigits u with
  | nil => rw [hd] at h; simp at h; omega
  | cons c r => exact ⟨c, r, rfl⟩
theorem dg_nat (u j : Nat) : (Lib.dg u j).toNat = 48 + u / 10 ^ j % 10 := dig_nat (by omega)
theorem dg_isD (u j : Nat) : isD (Lib.dg u j) = true := by rw [isD_iff, dg_nat]; omega

/-- The six digits behind the point. -/
def frac (u : Nat) : List UInt8 := [Lib.dg u 5, Lib.dg u 4, Lib.dg u 3, Lib.dg u 2, Lib.dg u 1, Lib.dg u 0]
theorem frac_eq {r : Nat} (h : r < 1000000) : (Lib.decDigits (1000000 + r)).drop 1 = frac (1000000 + r) := by
  have hn : Lib.nDigits (1000000 + r) = 7 := Lib.nDigits_unique 6 _ (by omega) (by omega)
  rw [Lib.decDigits_eq, hn]
  rfl
theorem dg_mod (u j : Nat) (hj : j < 6) : Lib.dg (1000000 + u % 1000000) j = Lib.dg u j := by
  unfold Lib.dg
  congr 2
  obtain rfl | rfl | rfl | rfl | rfl | rfl : j = 0 ∨ j = 1 ∨ j = 2 ∨ j = 3 ∨ j = 4 ∨ j = 5 := by omega
  all_goals omega
theorem frac_mod (u : Nat) : frac (1000000 + u % 1000000) = frac u := by
  unfold frac
  rw [dg_mod u 5 (by omega), dg_mod u 4 (by omega), dg_mod u 3 (by omega), dg_mod u 2 (by omega), dg_mod u 1 (by omega), dg_mod u 0 (by omega)]
theorem frac_dval (u q : Nat) : dval q (frac u) = q * 1000000 + u % 1000000 := by
  unfold frac dval
  simp only [List.foldl_cons, List.foldl_nil, dg_nat]
  have h5 : (10 : Nat) ^ 5 = 100000 := rfl
  have h4 : (10 : Nat) ^ 4 = 10000 := rfl
  have h3 : (10 : Nat) ^ 3 = 1000 := rfl
  have h2 : (10 : Nat) ^ 2 = 100 := rfl
  have h1 : (10 : Nat) ^ 1 = 10 := rfl
  have h0 : (10 : Nat) ^ 0 = 1 := rfl
  rw [h5, h4, h3, h2, h1, h0]
  omega
theorem frac_isD (u : Nat) : ∀ c ∈ frac u, isD c = true := by
  intro c hc
  simp only [frac, List.mem_cons, List.not_mem_nil, or_false] at hc
  rcases hc with h | h | h | h | h | h <;> (subst h; exact dg_isD _ _)
theorem frac_len (u : Nat) : (frac u).length = 6 := rfl

/-- What stands behind the sign of a printed decimal. -/
def bod (u : Nat) : List UInt8 := Lib.decDigits (u / 1000000) ++ 46 :: frac u
theorem fo_eq (x : Int) : foX x = (if x < 0 then [45] else []) ++ bod x.natAbs := by
  unfold foX bod
  rw [frac_eq (Nat.mod_lt _ (by decide)), frac_mod]
  simp only [List.append_assoc, List.cons_append, List.nil_append]

/-- strconv.Atoi of digits. -/
theorem uint_digits : ∀ (l : List UInt8) (a : Nat), (∀ c ∈ l, isD c = true) → dval a l < 18446744073709551616 → Lib.parseUint10 a l = .ok (dval a l)
  | [], a, _, _ => rfl
  | c :: r, a, h, hv => by
    have h1 := (isD_iff c).1 (h c (List.mem_cons_self ..))
    rw [dval_cons] at hv
    have h2 := dval_ge r (a * 10 + (c.toNat - 48))
    rw [Lib.parseUint10, if_pos h1, if_neg (by omega), if_neg (by omega), dval_cons]
    exact uint_digits r _ (fun d hd => h d (List.mem_cons_of_mem _ hd)) hv
theorem mag_dec {u : Nat} (h : u < 18446744073709551616) : Lib.parseMag (Lib.decDigits u) = .ok u := by
  obtain ⟨c, r, hcr⟩ := dec_cons u
  unfold Lib.parseMag
  rw [if_neg (by rw [hcr]; simp), uint_digits _ 0 (dec_isD u) (by rw [dec_dval]; exact h), dec_dval]
/-- What Atoi answers, whatever the error. -/
def atoiN (l : List UInt8) : Int :=
  match Lib.atoiAll l with
  | .ok v => v
  | Lib.NumEnd.syntax => 0
  | .range => Lib.atoiSat l
theorem atoiN_bounds (l : List UInt8) : -9223372036854775808 ≤ atoiN l ∧ atoiN l ≤ 9223372036854775807 := by
  unfold atoiN
  rcases h : Lib.atoiAll l with v | _ | _
  · exact Lib.atoiAll_bounds h
  · simp
  · exact Lib.atoiSat_bounds l
theorem atoi_back {n : Int} (h1 : -9223372036854775808 ≤ n) (h2 : n ≤ 9223372036854775807) : atoiN (Lib.itoa n) = n := by
  unfold atoiN Lib.itoa
  by_cases hn : n < 0
  · rw [if_pos hn, Lib.atoiAll_minus, mag_dec (by omega)]
    simp only [Lib.signed]
    rw [if_neg (by omega)]
    simp only
    omega
  · rw [if_neg hn]
    obtain ⟨c, r, hcr⟩ := dec_cons n.toNat
    have hc := (isD_iff c).1 (dec_isD n.toNat c (by rw [hcr]; exact List.mem_cons_self ..))
    have hm := mag_dec (u := n.toNat) (by omega)
    rw [hcr] at hm ⊢
    rw [Lib.atoiAll_plain c r (by omega) (by omega), hm]
    simp only [Lib.signless]
    rw [if_neg (by omega)]
    simp only
    omega

/-! decimal.Parse of what decimal.Format printed. -/
theorem byte_of_drop {l r : List UInt8} {i : Nat} {c : UInt8} (h : l.drop i = c :: r) : i < l.length ∧ byteAt l i = (c.toNat : Int) ∧ l.drop (i + 1) = r := by
  have hi : i < l.length := by
    rcases Nat.lt_or_ge i l.length with h0 | h0
    · exact h0
    · rw [List.drop_eq_nil_of_le h0] at h; cases h
  rw [List.drop_eq_getElem_cons hi] at h
  injection h with h1 h2
  refine ⟨hi, ?_, h2⟩
  unfold byteAt
  rw [List.getD_eq_getElem?_getD, List.getElem?_eq_getElem hi, h1]
  rfl
theorem rd_digits (l : List UInt8) : ∀ (ds r : List UInt8) (k i a p : Nat), l.drop i = ds ++ r → (∀ c ∈ ds, isD c = true) → dval a ds ≤ 1152921504606846976 →
    dec.rd l (k + ds.length) i (a : Int) p = dec.rd l k (i + ds.length) ((dval a ds : Nat) : Int) p
  | [], r, k, i, a, p, _, _, _ => rfl
  | c :: ds, r, k, i, a, p, h, hd, hv => by
    obtain ⟨hi, hb, hr⟩ := byte_of_drop h
    have hc := (isD_iff c).1 (hd c (List.mem_cons_self ..))
    rw [dval_cons] at hv
    have hg := dval_ge ds (a * 10 + (c.toNat - 48))
    have hw : wd (a : Int) (byteAt l i - 48) = ((a * 10 + (c.toNat - 48) : Nat) : Int) := by
      unfold wd
      rw [if_neg (by omega), hb]
      omega
    rw [List.length_cons, ← Nat.add_assoc, dec.rd, if_pos hi, if_pos (by rw [hb]; omega), hw, rd_digits l ds r k (i + 1) _ p hr (fun d hd' => hd d (List.mem_cons_of_mem _ hd')) hv, dval_cons, Nat.add_assoc, Nat.add_comm 1]
theorem rdAll_bod {u : Nat} (hu : u ≤ 1152921504606846976) : rdAll (bod u) = ((u : Int), 6, true) := by
  obtain ⟨D, hD⟩ : ∃ D, D = Lib.decDigits (u / 1000000) := ⟨_, rfl⟩
  have hlen : (bod u).length = D.length + 7 := by unfold bod; rw [← hD]; simp [frac_len]
  have hpos : 1 ≤ D.length := by rw [hD, Lib.decDigits_length]; exact Lib.nDigits_pos _
  have hb : bod u = D ++ 46 :: frac u := by rw [hD]; rfl
  have hv : dval 0 D = u / 1000000 := by rw [hD]; exact dec_dval _
  have hf : dval (u / 1000000) (frac u) = u := by rw [frac_dval]; omega
  unfold rdAll
  have s1 := rd_digits (bod u) D (46 :: frac u) 7 0 0 (bod u).length (by rw [hb]; rfl) (by rw [hD]; exact dec_isD _) (by rw [hv]; omega)
  rw [hv, Nat.zero_add] at s1
  have hdr : (bod u).drop D.length = 46 :: frac u := by rw [hb, List.drop_left]
  obtain ⟨h1, h2, h3⟩ := byte_of_drop hdr
  have e46 : byteAt (bod u) D.length = 46 := by rw [h2]; rfl
  have s2 : dec.rd (bod u) 7 D.length ((u / 1000000 : Nat) : Int) (bod u).length = dec.rd (bod u) 6 (D.length + 1) ((u / 1000000 : Nat) : Int) D.length := by
    rw [show 7 = 6 + 1 from rfl, dec.rd, if_pos h1, if_neg (by omega), if_pos ⟨e46, rfl⟩]
  have s3 := rd_digits (bod u) (frac u) [] 0 (D.length + 1) (u / 1000000) D.length (by rw [h3, List.append_nil]) (frac_isD u) (by rw [hf]; exact hu)
  rw [hf, frac_len, Nat.zero_add] at s3
  have s4 : dec.rd (bod u) (bod u).length 0 0 (bod u).length = (D.length + 7, (u : Int), D.length) := by
    rw [show dec.rd (bod u) (bod u).length 0 0 (bod u).length = dec.rd (bod u) (7 + D.length) 0 ((0 : Nat) : Int) (bod u).length by rw [hlen, Nat.add_comm]; rfl, s1, s2, s3]
    rfl
  rw [s4]
  unfold rdEnd
  simp only
  rw [hlen, if_neg (by omega), if_neg (by omega), if_neg (by omega)]
  congr 2
  omega
theorem bod_cons (u : Nat) : ∃ c r, bod u = c :: r ∧ isD c = true := by
  obtain ⟨c, r, h⟩ := dec_cons (u / 1000000)
  exact ⟨c, r ++ 46 :: frac u, by unfold bod; rw [h]; rfl, dec_isD _ c (by rw [h]; exact List.mem_cons_self ..)⟩
theorem pre_minus (l : List UInt8) : Lib.hasPrefix (45 :: l) [45] = true ∧ Lib.trimPrefix (45 :: l) [45] = l := by
  constructor
  · simp [Lib.hasPrefix, List.isPrefixOf]
  · simp [Lib.trimPrefix, Lib.hasPrefix, List.isPrefixOf]
theorem pre_other {c : UInt8} (h : c ≠ 45) (l : List UInt8) : Lib.hasPrefix (c :: l) [45] = false ∧ Lib.trimPrefix (c :: l) [45] = c :: l := by
  have e : ((45 : UInt8) == c) = false := by rw [beq_eq_false_iff_ne]; exact fun h' => h h'.symm
  have h1 : Lib.hasPrefix (c :: l) [45] = false := by simp [Lib.hasPrefix, List.isPrefixOf, e]
  exact ⟨h1, by unfold Lib.trimPrefix; rw [h1]; rfl⟩
theorem ne_of_toNat {c : UInt8} {n : Nat} (hn : n < 256) (h : c.toNat ≠ n) : c ≠ UInt8.ofNat n := by
  intro e
  subst e
  apply h
  rw [UInt8.toNat_ofNat']
  omega
theorem pa_fo {x : Int} (h1 : -1152921504606846976 ≤ x) (h2 : x ≤ 1152921504606846976) : paX (foX x) = x ∧ paE (foX x) = 0 := by
  have hr := (rg_iff x).2 ⟨h1, h2⟩
  have hall := rdAll_bod (u := x.natAbs) (by omega)
  have hpm : Lib.trimPrefix (foX x) [45] = bod x.natAbs ∧ pmOf (foX x) = x := by
    rw [fo_eq]
    by_cases hx : x < 0
    · rw [if_pos hx, List.singleton_append]
      obtain ⟨p1, p2⟩ := pre_minus (bod x.natAbs)
      refine ⟨p2, ?_⟩
      unfold pmOf
      rw [p1, p2, hall]
      simp [powTab]
      omega
    · rw [if_neg hx, List.nil_append]
      obtain ⟨c, r, hcr, hc⟩ := bod_cons x.natAbs
      rw [isD_iff] at hc
      have hne : c ≠ 45 := ne_of_toNat (n := 45) (by decide) (by omega)
      rw [hcr]
      obtain ⟨p1, p2⟩ := pre_other hne r
      refine ⟨p2, ?_⟩
      unfold pmOf
      rw [p1, p2, ← hcr, hall]
      simp [powTab]
      omega
  unfold paX paE
  rw [hpm.1, hpm.2, hall, hr]
  exact ⟨rfl, rfl⟩
end Go.Proofs.YtbahfelnbofjjaaGreatDoor

namespace Go.Proofs.YtbahfelnbofjjaaGreatDoor
open dec

/-- How many digits a string begins with. -/
def dgn : List UInt8 → Nat
  | [] => 0
  | c :: r => if isD c then dgn r + 1 else 0
theorem dgn_digits (c : UInt8) (hc : isD c = false) (r : List UInt8) : ∀ (ds : List UInt8), (∀ d ∈ ds, isD d = true) → dgn (ds ++ c :: r) = ds.length
  | [], _ => by simp [dgn, hc]
  | d :: ds, h => by
    rw [List.cons_append, dgn, if_pos (h d (List.mem_cons_self ..)), dgn_digits c hc r ds (fun x hx => h x (List.mem_cons_of_mem _ hx)), List.length_cons]
theorem dgn_all : ∀ (ds : List UInt8), (∀ d ∈ ds, isD d = true) → dgn ds = ds.length
  | [], _ => rfl
  | d :: ds, h => by
    rw [dgn, if_pos (h d (List.mem_cons_self ..)), dgn_all ds (fun x hx => h x (List.mem_cons_of_mem _ hx)), List.length_cons]
theorem dgn_le : ∀ (l : List UInt8), dgn l ≤ l.length
  | [] => Nat.le_refl _
  | c :: r => by
    have := dgn_le r
    rw [dgn, List.length_cons]
    split <;> omega
/-- The place behind a sign. -/
def atP (l : List UInt8) : Nat := if l.head? = some 45 then 1 else 0
/-- asofref02.Formed. -/
def formP (l : List UInt8) : Bool :=
  if dgn (l.drop (atP l)) = 0 then false
  else if atP l + dgn (l.drop (atP l)) = l.length then true
  else decide (l.getD (atP l + dgn (l.drop (atP l))) 0 = 46) && decide (1 ≤ dgn (l.drop (atP l + dgn (l.drop (atP l)) + 1))) && decide (dgn (l.drop (atP l + dgn (l.drop (atP l)) + 1)) ≤ 6)
    && decide (atP l + dgn (l.drop (atP l)) + 1 + dgn (l.drop (atP l + dgn (l.drop (atP l)) + 1)) = l.length)
/-- One digit more. -/
def sat (x d : Nat) : Nat := min (10 * min x 115292150460684698 + d) 1152921504606846977
theorem sat_le (x d : Nat) : sat x d ≤ 1152921504606846977 := by unfold sat; omega
theorem sat_eq {x d : Nat} (h : 10 * x + d ≤ 1152921504606846976) : sat x d = 10 * x + d := by unfold sat; omega
def stp (q : Nat × Int) (c : UInt8) : Nat × Int :=
  let b := if c = 46 then 0 else q.2
  if isD c then (sat q.1 (c.toNat - 48), if 0 ≤ b then b + 1 else b) else (q.1, b)
def scl : Nat → Nat → Nat
  | 0, x => x
  | k + 1, x => scl k (sat x 0)
theorem scl_le : ∀ (k x : Nat), x ≤ 1152921504606846977 → scl k x ≤ 1152921504606846977
  | 0, _, h => h
  | k + 1, x, _ => scl_le k _ (sat_le x 0)
def rpEnd (l : List UInt8) (y : Nat) : Int × Int := if 1152921504606846976 < y then (0, 2) else (if l.head? = some 45 then -(y : Int) else y, 0)
/-- asofref02.Parse. -/
def rpP (l : List UInt8) : Int × Int :=
  if formP l then rpEnd l (scl (6 - (max (l.foldl stp (0, -1)).2 0).toNat) (l.foldl stp (0, -1)).1) else (0, 3)

theorem stp_digits : ∀ (ds : List UInt8) (x : Nat) (b : Int), (∀ d ∈ ds, isD d = true) → dval x ds ≤ 1152921504606846976 → ds.foldl stp (x, b) = (dval x ds, if 0 ≤ b then b + ds.length else b)
  | [], x, b, _, _ => by simp [dval]
  | c :: ds, x, b, h, hv => by
    have hc := h c (List.mem_cons_self ..)
    have hc2 := (isD_iff c).1 hc
    have hg := dval_ge ds (x * 10 + (c.toNat - 48))
    rw [dval_cons] at hv
    have e46 : c ≠ 46 := ne_of_toNat (n := 46) (by decide) (by omega)
    have hs : stp (x, b) c = (x * 10 + (c.toNat - 48), if 0 ≤ b then b + 1 else b) := by
      unfold stp
      simp only [if_neg e46, hc, if_true]
      rw [sat_eq (by omega)]
      congr 1
      omega
    rw [List.foldl_cons, hs, stp_digits ds _ _ (fun d hd => h d (List.mem_cons_of_mem _ hd)) hv, dval_cons, List.length_cons]
    congr 1
    by_cases hb : 0 ≤ b
    · rw [if_pos hb, if_pos (by omega), if_pos hb]; omega
    · rw [if_neg hb, if_neg hb, if_neg hb]
theorem stp_bod {u : Nat} (hu : u ≤ 1152921504606846976) : (bod u).foldl stp (0, -1) = (u, 6) := by
  have hf : dval (u / 1000000) (frac u) = u := by rw [frac_dval]; omega
  unfold bod
  rw [List.foldl_append, stp_digits _ 0 (-1) (dec_isD _) (by rw [dec_dval]; omega), dec_dval, if_neg (by omega), List.foldl_cons,
    show stp (u / 1000000, -1) 46 = (u / 1000000, 0) from rfl, stp_digits _ _ 0 (frac_isD u) (by rw [hf]; exact hu), hf, frac_len]
  rfl
theorem dgn_bod (u : Nat) : dgn (bod u) = (Lib.decDigits (u / 1000000)).length := dgn_digits 46 rfl _ _ (dec_isD _)
theorem form_fo (x : Int) : formP (foX x) = true := by
  obtain ⟨u, hu⟩ : ∃ u, u = x.natAbs := ⟨_, rfl⟩
  have hpos : 1 ≤ (Lib.decDigits (u / 1000000)).length := by rw [Lib.decDigits_length]; exact Lib.nDigits_pos _
  have hlen : (bod u).length = (Lib.decDigits (u / 1000000)).length + 7 := by unfold bod; simp [frac_len]
  have h46 : (bod u).drop (Lib.decDigits (u / 1000000)).length = 46 :: frac u := by unfold bod; rw [List.drop_left]
  have h7 : (bod u).drop ((Lib.decDigits (u / 1000000)).length + 1) = frac u := by rw [← List.drop_drop, h46]; rfl
  have hg : (bod u).getD (Lib.decDigits (u / 1000000)).length 0 = 46 := by
    have := (byte_of_drop h46).1
    rw [List.drop_eq_getElem_cons this] at h46
    injection h46 with h1 _
    rw [List.getD_eq_getElem?_getD, List.getElem?_eq_getElem this, h1]
    rfl
  have hfr : dgn (frac u) = 6 := dgn_all _ (frac_isD u)
  have hdb := dgn_bod u
  obtain ⟨D, hD⟩ : ∃ D, D = (Lib.decDigits (u / 1000000)).length := ⟨_, rfl⟩
  rw [← hD] at hdb hg h7 h46 hlen hpos
  rw [fo_eq, ← hu]
  by_cases hx : x < 0
  · rw [if_pos hx, List.singleton_append]
    have ha : atP (45 :: bod u) = 1 := rfl
    have hd1 : (45 :: bod u).drop 1 = bod u := rfl
    have hd2 : (45 :: bod u).drop (1 + D + 1) = frac u := by rw [show 1 + D + 1 = (D + 1) + 1 by omega, List.drop_succ_cons]; exact h7
    have hg2 : (45 :: bod u).getD (1 + D) 0 = 46 := by rw [Nat.add_comm, List.getD_cons_succ]; exact hg
    unfold formP
    rw [ha, hd1, hdb, hd2, hfr, hg2, if_neg (by omega), List.length_cons, hlen, if_neg (by omega)]
    simp
    omega
  · rw [if_neg hx, List.nil_append]
    obtain ⟨c, r, hcr, hc⟩ := bod_cons u
    rw [isD_iff] at hc
    have hne : c ≠ 45 := ne_of_toNat (n := 45) (by decide) (by omega)
    have ha : atP (bod u) = 0 := by
      unfold atP
      rw [hcr, if_neg (by simpa using hne)]
    unfold formP
    rw [ha, List.drop_zero, hdb, Nat.zero_add, h7, hfr, hg, if_neg (by omega), hlen, if_neg (by omega)]
    simp
theorem rp_fo {x : Int} (h1 : -1152921504606846976 ≤ x) (h2 : x ≤ 1152921504606846976) : rpP (foX x) = (x, 0) := by
  obtain ⟨u, hu⟩ : ∃ u, u = x.natAbs := ⟨_, rfl⟩
  have hs := stp_bod (u := u) (by omega)
  unfold rpP
  rw [if_pos (form_fo x), fo_eq, ← hu]
  by_cases hx : x < 0
  · rw [if_pos hx, List.singleton_append, List.foldl_cons, show stp (0, -1) 45 = (0, -1) from rfl, hs]
    rw [show scl (6 - (max ((u, (6 : Int)) : Nat × Int).2 0).toNat) ((u, (6 : Int)) : Nat × Int).1 = u from rfl]
    unfold rpEnd
    rw [if_neg (by omega), List.head?_cons, if_pos rfl]
    congr 1
    omega
  · rw [if_neg hx, List.nil_append, hs]
    obtain ⟨c, r, hcr, hc⟩ := bod_cons u
    rw [isD_iff] at hc
    have hne : c ≠ 45 := ne_of_toNat (n := 45) (by decide) (by omega)
    rw [show scl (6 - (max ((u, (6 : Int)) : Nat × Int).2 0).toNat) ((u, (6 : Int)) : Nat × Int).1 = u from rfl]
    unfold rpEnd
    rw [if_neg (by omega), hcr, List.head?_cons, if_neg (by simpa using hne)]
    congr 1
    omega

/-- asofref05.whole: the number, or none. -/
def whl : List UInt8 → Nat → Option Nat
  | [], a => some a
  | c :: r, a => if isD c = true ∧ a ≤ 115292150460684697 then whl r (10 * a + (c.toNat - 48)) else none
theorem whl_le : ∀ (l : List UInt8) (a b : Nat), a ≤ 1152921504606846979 → whl l a = some b → b ≤ 1152921504606846979
  | [], a, b, h, e => by rw [whl] at e; injection e with e; omega
  | c :: r, a, b, h, e => by
    rw [whl] at e
    split at e
    · rename_i hc
      have := (isD_iff c).1 hc.1
      exact whl_le r _ b (by omega) e
    · cases e
theorem whl_digits : ∀ (l : List UInt8) (a : Nat), (∀ d ∈ l, isD d = true) → dval a l ≤ 1152921504606846976 → whl l a = some (dval a l)
  | [], a, _, _ => rfl
  | c :: r, a, h, hv => by
    rw [dval_cons] at hv
    have hg := dval_ge r (a * 10 + (c.toNat - 48))
    rw [whl, if_pos ⟨h c (List.mem_cons_self ..), by omega⟩, Nat.mul_comm, whl_digits r _ (fun d hd => h d (List.mem_cons_of_mem _ hd)) hv, dval_cons]
end Go.Proofs.YtbahfelnbofjjaaGreatDoor

namespace Go.Proofs.YtbahfelnbofjjaaGreatDoor
open dec

/-- A value: its kind, its number, its string. -/
structure Va where
  k : Int
  n : Int
  s : ByteArray
theorem Va.ext' {a b : Va} (h1 : a.k = b.k) (h2 : a.n = b.n) (h3 : a.s = b.s) : a = b := by cases a; cases b; simp_all
instance : DecidableEq Va := fun a b => decidable_of_iff (a.k = b.k ∧ a.n = b.n ∧ a.s = b.s) ⟨fun h => Va.ext' h.1 h.2.1 h.2.2, fun h => by subst h; exact ⟨rfl, rfl, rfl⟩⟩

/-- May this byte stand in a text (from lo on)? -/
def okB (lo : Nat) (c : UInt8) : Bool := decide (lo ≤ c.toNat) && decide (c.toNat ≤ 126) && !decide (c.toNat = 34) && !decide (c.toNat = 92)
def pB (lo : Nat) (l : List UInt8) : Bool := l.all (okB lo)
def fmd (v : Va) : Bool :=
  if v.k = 0 then decide (v.n = 0) && decide (v.s.size = 0)
  else if v.k = 1 then (decide (v.n = 0) || decide (v.n = 1)) && decide (v.s.size = 0)
  else if v.k = 2 ∨ v.k = 3 then decide (v.s.size = 0)
  else if v.k = 4 ∨ v.k = 5 then decide (v.n = 0)
  else false
def lmt (v : Va) : Bool :=
  if v.k = 2 ∨ v.k = 3 then rg v.n
  else if v.k = 4 then decide (v.s.size ≤ 64)
  else if v.k = 5 then decide (v.s.size ≤ 32)
  else true
def spl (v : Va) : Bool :=
  if v.k = 4 then pB 32 v.s.data.toList
  else if v.k = 5 then !decide (v.s.size = 0) && pB 33 v.s.data.toList
  else true
/-- values.Check. -/
def ck (v : Va) : Int := if fmd v then (if lmt v then (if spl v then 0 else 3) else 2) else 1
def ok (v : Va) : Bool := decide (ck v = 0)
theorem ok_iff (v : Va) : ok v = true ↔ fmd v = true ∧ lmt v = true ∧ spl v = true := by
  unfold ok ck
  cases fmd v <;> cases lmt v <;> cases spl v <;> simp

theorem ck_ok {v : Va} (h : ok v = true) : ck v = 0 := by unfold ok at h; exact of_decide_eq_true h
theorem size_zero {s : ByteArray} (h : s.size = 0) : s = .empty := by
  cases s with
  | mk d =>
    have : d.size = 0 := h
    rw [Array.eq_empty_of_size_eq_zero this]
    rfl
/-- What a valid value is. -/
theorem ok_cases {v : Va} (h : ok v = true) : v = ⟨0, 0, .empty⟩ ∨ v = ⟨1, 0, .empty⟩ ∨ v = ⟨1, 1, .empty⟩ ∨ (∃ n, v = ⟨2, n, .empty⟩ ∧ -1152921504606846976 ≤ n ∧ n ≤ 1152921504606846976) ∨ (∃ n, v = ⟨3, n, .empty⟩ ∧ -1152921504606846976 ≤ n ∧ n ≤ 1152921504606846976) ∨
    (∃ s, v = ⟨4, 0, s⟩ ∧ s.size ≤ 64 ∧ pB 32 s.data.toList = true) ∨ ∃ s, v = ⟨5, 0, s⟩ ∧ 1 ≤ s.size ∧ s.size ≤ 32 ∧ pB 33 s.data.toList = true := by
  obtain ⟨h1, h2, h3⟩ := (ok_iff v).1 h
  obtain ⟨k, n, s⟩ := v
  unfold fmd lmt spl at *
  simp only at h1 h2 h3
  by_cases k0 : k = 0
  · subst k0
    simp at h1
    exact .inl (Va.ext' rfl h1.1 h1.2)
  by_cases k1 : k = 1
  · subst k1
    simp at h1
    rcases h1.1 with e | e
    · exact .inr (.inl (Va.ext' rfl e h1.2))
    · exact .inr (.inr (.inl (Va.ext' rfl e h1.2)))
  by_cases k2 : k = 2
  · subst k2
    simp [rg_iff] at h1 h2
    exact .inr (.inr (.inr (.inl ⟨n, Va.ext' rfl rfl h1, h2.1, h2.2⟩)))
  by_cases k3 : k = 3
  · subst k3
    simp [rg_iff] at h1 h2
    exact .inr (.inr (.inr (.inr (.inl ⟨n, Va.ext' rfl rfl h1, h2.1, h2.2⟩))))
  by_cases k4 : k = 4
  · subst k4
    simp at h1 h2 h3
    exact .inr (.inr (.inr (.inr (.inr (.inl ⟨s, Va.ext' rfl h1 rfl, h2, h3⟩)))))
  by_cases k5 : k = 5
  · subst k5
    simp at h1 h2 h3
    exact .inr (.inr (.inr (.inr (.inr (.inr ⟨s, Va.ext' rfl h1 rfl, Nat.pos_of_ne_zero fun h => h3.1 (size_zero h), h2, h3.2⟩)))))
  · simp [k0, k1, k2, k3, k4, k5] at h1
theorem ok_text {s : ByteArray} (h1 : s.size ≤ 64) (h2 : pB 32 s.data.toList = true) : ok ⟨4, 0, s⟩ = true := by rw [ok_iff]; simp [fmd, lmt, spl, h1, h2]
theorem ok_key {s : ByteArray} (h0 : 1 ≤ s.size) (h1 : s.size ≤ 32) (h2 : pB 33 s.data.toList = true) : ok ⟨5, 0, s⟩ = true := by
  rw [ok_iff]
  have : ¬ s = .empty := fun e => by rw [e] at h0; exact absurd h0 (by decide)
  simp [fmd, lmt, spl, h1, h2, this]
theorem ok_int {n : Int} (h1 : -1152921504606846976 ≤ n) (h2 : n ≤ 1152921504606846976) : ok ⟨2, n, .empty⟩ = true := by
  rw [ok_iff]
  have := (rg_iff n).2 ⟨h1, h2⟩
  simp [fmd, lmt, spl, this]
theorem ok_dec {n : Int} (h1 : -1152921504606846976 ≤ n) (h2 : n ≤ 1152921504606846976) : ok ⟨3, n, .empty⟩ = true := by
  rw [ok_iff]
  have := (rg_iff n).2 ⟨h1, h2⟩
  simp [fmd, lmt, spl, this]

/-- values.Format. -/
def fmV (v : Va) : List UInt8 :=
  if v.k = 1 then (if v.n = 1 then [116, 114, 117, 101] else [102, 97, 108, 115, 101])
  else if v.k = 2 then Lib.itoa v.n
  else if v.k = 3 then foX v.n
  else if v.k = 4 then 34 :: (v.s.data.toList ++ [34])
  else if v.k = 5 then 64 :: v.s.data.toList
  else [110, 117, 108, 108]
def fm (v : Va) : List UInt8 := if ok v then fmV v else []
/-- values.candidate. -/
def cdP (l : List UInt8) : Va :=
  if l = [110, 117, 108, 108] then ⟨0, 0, .empty⟩
  else if l = [116, 114, 117, 101] then ⟨1, 1, .empty⟩
  else if l = [102, 97, 108, 115, 101] then ⟨1, 0, .empty⟩
  else if Lib.hasPrefix l [34] then ⟨4, 0, ⟨(Lib.trimSuffix (l.drop 1) [34]).toArray⟩⟩
  else if Lib.hasPrefix l [64] then ⟨5, 0, ⟨(l.drop 1).toArray⟩⟩
  else if 0 ≤ Lib.indexByte l 46 then ⟨3, paX l, .empty⟩
  else ⟨2, atoiN l, .empty⟩
/-- asofref05.whole. -/
def whP (l : List UInt8) : Va :=
  if atP l = l.length then ⟨0, 0, .empty⟩
  else match whl (l.drop (atP l)) 0 with
    | none => ⟨0, 0, .empty⟩
    | some a => ⟨2, if l.head? = some 45 then -(a : Int) else a, .empty⟩
/-- asofref05.guess. -/
def gsP (l : List UInt8) : Va :=
  if l = [116, 114, 117, 101] then ⟨1, 1, .empty⟩
  else if l = [102, 97, 108, 115, 101] then ⟨1, 0, .empty⟩
  else if 2 ≤ l.length ∧ l.getD 0 0 = 34 ∧ l.getD (l.length - 1) 0 = 34 then ⟨4, 0, ⟨((l.drop 1).take (l.length - 2)).toArray⟩⟩
  else if 1 ≤ l.length ∧ l.getD 0 0 = 64 then ⟨5, 0, ⟨(l.drop 1).toArray⟩⟩
  else if 46 ∈ l then ⟨3, (rpP l).1, .empty⟩
  else whP l

/-! Reading back. -/
theorem itoa_head (n : Int) : ∃ c r, Lib.itoa n = c :: r ∧ (c = 45 ∨ isD c = true) ∧ (∀ d ∈ r, isD d = true) := by
  unfold Lib.itoa
  by_cases h : n < 0
  · rw [if_pos h]; exact ⟨_, _, rfl, .inl rfl, dec_isD _⟩
  · rw [if_neg h]
    obtain ⟨c, r, e⟩ := dec_cons n.toNat
    exact ⟨c, r, e, .inr (dec_isD _ c (by rw [e]; exact List.mem_cons_self ..)), fun d hd => dec_isD n.toNat d (by rw [e]; exact List.mem_cons_of_mem _ hd)⟩
theorem fo_head (n : Int) : ∃ c r, foX n = c :: r ∧ (c = 45 ∨ isD c = true) ∧ 46 ∈ r := by
  rw [fo_eq]
  obtain ⟨c, r, e⟩ := dec_cons (n.natAbs / 1000000)
  have hc := dec_isD (n.natAbs / 1000000) c (by rw [e]; exact List.mem_cons_self ..)
  by_cases h : n < 0
  · rw [if_pos h]; exact ⟨45, bod n.natAbs, rfl, .inl rfl, by unfold bod; simp⟩
  · rw [if_neg h]; exact ⟨c, r ++ 46 :: frac n.natAbs, by unfold bod; rw [e]; rfl, .inr hc, by simp⟩
theorem head_ne {c : UInt8} (h : c = 45 ∨ isD c = true) : c ≠ 110 ∧ c ≠ 116 ∧ c ≠ 102 ∧ c ≠ 34 ∧ c ≠ 64 := by
  rcases h with rfl | h
  · decide
  · rw [isD_iff] at h
    exact ⟨ne_of_toNat (n := 110) (by decide) (by omega), ne_of_toNat (n := 116) (by decide) (by omega), ne_of_toNat (n := 102) (by decide) (by omega), ne_of_toNat (n := 34) (by decide) (by omega), ne_of_toNat (n := 64) (by decide) (by omega)⟩
theorem pre_one {c x : UInt8} (h : c ≠ x) (l : List UInt8) : Lib.hasPrefix (c :: l) [x] = false := by
  have e : (x == c) = false := by rw [beq_eq_false_iff_ne]; exact fun h' => h h'.symm
  simp [Lib.hasPrefix, List.isPrefixOf, e]
theorem pre_same (x : UInt8) (l : List UInt8) : Lib.hasPrefix (x :: l) [x] = true := by simp [Lib.hasPrefix, List.isPrefixOf]
theorem index_in {l : List UInt8} {c : UInt8} (h : c ∈ l) : 0 ≤ Lib.indexByte l c := by
  induction l with
  | nil => cases h
  | cons b l ih =>
    unfold Lib.indexByte
    by_cases hb : b = c
    · subst hb; simp
    · have e : (b == c) = false := by rw [beq_eq_false_iff_ne]; exact hb
      have := ih (by rcases List.mem_cons.1 h with h | h; exact absurd h.symm hb; exact h)
      rw [e]
      simp only [Bool.false_eq_true, if_false]
      split
      · rename_i h1
        have := beq_iff_eq.1 h1
        omega
      · omega
theorem index_out {l : List UInt8} {c : UInt8} (h : c ∉ l) : Lib.indexByte l c = -1 := by
  induction l with
  | nil => rfl
  | cons b l ih =>
    unfold Lib.indexByte
    have hb : b ≠ c := fun e => h (by rw [e]; exact List.mem_cons_self ..)
    have e : (b == c) = false := by rw [beq_eq_false_iff_ne]; exact hb
    rw [e, ih (fun h' => h (List.mem_cons_of_mem _ h'))]
    rfl
theorem ba_list (s : ByteArray) : (⟨s.data.toList.toArray⟩ : ByteArray) = s := rfl
theorem itoa_dot (n : Int) : 46 ∉ Lib.itoa n := by
  obtain ⟨c, r, e, h1, h2⟩ := itoa_head n
  rw [e]
  intro h
  rcases List.mem_cons.1 h with h | h
  · rcases h1 with h1 | h1
    · rw [h1] at h; exact absurd h (by decide)
    · rw [← h] at h1; exact absurd h1 (by decide)
  · exact absurd (h2 46 h) (by decide)
theorem suffix_one (l : List UInt8) (x : UInt8) : Lib.trimSuffix (l ++ [x]) [x] = l := by
  have h : Lib.hasSuffix (l ++ [x]) [x] = true := by
    unfold Lib.hasSuffix
    rw [List.isSuffixOf_iff_suffix]
    exact List.suffix_append l [x]
  unfold Lib.trimSuffix
  rw [h, if_pos rfl, List.length_append]
  show List.take (l.length + 1 - 1) (l ++ [x]) = l
  rw [Nat.add_sub_cancel, List.take_left]
theorem cd_fm {v : Va} (h : ok v = true) : cdP (fmV v) = v := by
  rcases ok_cases h with rfl | rfl | rfl | ⟨n, rfl, h1, h2⟩ | ⟨n, rfl, h1, h2⟩ | ⟨s, rfl, h1, h2⟩ | ⟨s, rfl, h0, h1, h2⟩
  · rfl
  · rfl
  · rfl
  · show cdP (Lib.itoa n) = _
    obtain ⟨c, r, e, hc, hr⟩ := itoa_head n
    obtain ⟨q1, q2, q3, q4, q5⟩ := head_ne hc
    have hd := index_out (itoa_dot n)
    have hb := atoi_back (n := n) (by omega) (by omega)
    rw [e] at hd hb ⊢
    unfold cdP
    rw [if_neg (by simp [q1]), if_neg (by simp [q2]), if_neg (by simp [q3]), pre_one q4, pre_one q5, hd, hb]
    rfl
  · show cdP (foX n) = _
    obtain ⟨c, r, e, hc, hr⟩ := fo_head n
    obtain ⟨q1, q2, q3, q4, q5⟩ := head_ne hc
    have hd := index_in (l := foX n) (c := 46) (by rw [e]; exact List.mem_cons_of_mem _ hr)
    have hb := (pa_fo h1 h2).1
    rw [e] at hd hb ⊢
    unfold cdP
    rw [if_neg (by simp [q1]), if_neg (by simp [q2]), if_neg (by simp [q3]), pre_one q4, pre_one q5, if_neg (by decide), if_neg (by decide), if_pos hd, hb]
  · show cdP (34 :: (s.data.toList ++ [34])) = _
    unfold cdP
    rw [if_neg (by simp), if_neg (by simp), if_neg (by simp), pre_same, if_pos rfl]
    show (⟨4, 0, ⟨(Lib.trimSuffix (s.data.toList ++ [34]) [34]).toArray⟩⟩ : Va) = _
    rw [suffix_one]
  · show cdP (64 :: s.data.toList) = _
    unfold cdP
    rw [if_neg (by simp), if_neg (by simp), if_neg (by simp), pre_one (by decide), pre_same, if_neg (by decide), if_pos rfl]
    rfl
theorem gs_fm {v : Va} (h : ok v = true) : gsP (fmV v) = v := by
  rcases ok_cases h with rfl | rfl | rfl | ⟨n, rfl, h1, h2⟩ | ⟨n, rfl, h1, h2⟩ | ⟨s, rfl, h1, h2⟩ | ⟨s, rfl, h0, h1, h2⟩
  · decide +kernel
  · decide +kernel
  · decide +kernel
  · show gsP (Lib.itoa n) = _
    obtain ⟨c, r, e, hc, hr⟩ := itoa_head n
    obtain ⟨q1, q2, q3, q4, q5⟩ := head_ne hc
    have hd := itoa_dot n
    rw [e] at hd
    have hw : whP (Lib.itoa n) = ⟨2, n, .empty⟩ := by
      unfold Lib.itoa
      by_cases hn : n < 0
      · rw [if_pos hn]
        obtain ⟨c', r', e'⟩ := dec_cons n.natAbs
        have hv := whl_digits (Lib.decDigits n.natAbs) 0 (dec_isD _) (by rw [dec_dval]; omega)
        rw [dec_dval] at hv
        have ha : atP (45 :: Lib.decDigits n.natAbs) = 1 := rfl
        unfold whP
        rw [ha, if_neg (by rw [e']; simp), List.drop_succ_cons, List.drop_zero, hv]
        simp only [List.head?_cons, if_true]
        exact Va.ext' rfl (by simp only; omega) rfl
      · rw [if_neg hn]
        have hv := whl_digits (Lib.decDigits n.toNat) 0 (dec_isD _) (by rw [dec_dval]; omega)
        rw [dec_dval] at hv
        obtain ⟨c', r', e'⟩ := dec_cons n.toNat
        have hc' := (isD_iff c').1 (dec_isD n.toNat c' (by rw [e']; exact List.mem_cons_self ..))
        have hne : c' ≠ 45 := ne_of_toNat (n := 45) (by decide) (by omega)
        have hh : ¬ (Lib.decDigits n.toNat).head? = some 45 := by rw [e', List.head?_cons]; simpa using hne
        have ha : atP (Lib.decDigits n.toNat) = 0 := by unfold atP; rw [if_neg hh]
        unfold whP
        rw [ha, if_neg (by rw [e']; simp), List.drop_zero, hv]
        simp only [if_neg hh]
        exact Va.ext' rfl (by simp only; omega) rfl
    rw [e] at hw ⊢
    unfold gsP
    rw [if_neg (by simp [q2]), if_neg (by simp [q3]), if_neg (by simp [q4]), if_neg (by simp [q5]), if_neg hd, hw]
  · show gsP (foX n) = _
    obtain ⟨c, r, e, hc, hr⟩ := fo_head n
    obtain ⟨q1, q2, q3, q4, q5⟩ := head_ne hc
    have hb := rp_fo h1 h2
    rw [e] at hb ⊢
    unfold gsP
    rw [if_neg (by simp [q2]), if_neg (by simp [q3]), if_neg (by simp [q4]), if_neg (by simp [q5]), if_pos (List.mem_cons_of_mem _ hr), hb]
  · show gsP (34 :: (s.data.toList ++ [34])) = _
    have hl : (34 :: (s.data.toList ++ [34])).length = s.data.toList.length + 2 := by simp
    have hlast : (34 :: (s.data.toList ++ [34])).getD (s.data.toList.length + 2 - 1) 0 = 34 := by
      rw [show s.data.toList.length + 2 - 1 = s.data.toList.length + 1 from rfl, List.getD_cons_succ]
      simp
    unfold gsP
    rw [if_neg (by simp), if_neg (by simp), hl, if_pos ⟨by omega, rfl, hlast⟩, List.drop_succ_cons, List.drop_zero, show s.data.toList.length + 2 - 2 = s.data.toList.length from rfl, List.take_left]
  · show gsP (64 :: s.data.toList) = _
    unfold gsP
    rw [if_neg (by simp), if_neg (by simp), if_neg (by simp), if_pos ⟨by simp, rfl⟩]
    rfl
theorem fmV_ne {v : Va} (h : ok v = true) : fmV v ≠ [] := by
  rcases ok_cases h with rfl | rfl | rfl | ⟨n, rfl, h1, h2⟩ | ⟨n, rfl, h1, h2⟩ | ⟨s, rfl, h1, h2⟩ | ⟨s, rfl, h0, h1, h2⟩
  · decide
  · decide
  · decide
  · show Lib.itoa n ≠ []
    obtain ⟨c, r, e, _⟩ := itoa_head n
    rw [e]; simp
  · show foX n ≠ []
    obtain ⟨c, r, e, _⟩ := fo_head n
    rw [e]; simp
  · show 34 :: _ ≠ []
    simp
  · show 64 :: _ ≠ []
    simp
theorem fm_ok {v : Va} (h : ok v = true) : fm v = fmV v := by unfold fm; rw [if_pos h]
theorem fm_no {v : Va} (h : ok v = false) : fm v = [] := by unfold fm; rw [h]; rfl
theorem fm_inj {a b : Va} (ha : ok a = true) (hb : ok b = true) (h : fm a = fm b) : a = b := by
  rw [fm_ok ha, fm_ok hb] at h
  rw [← cd_fm ha, ← cd_fm hb, h]

/-- values.Parse. -/
def psP (l : List UInt8) : Va × Int := if fm (cdP l) = l then (cdP l, 0) else (⟨0, 0, .empty⟩, 3)
theorem ps_fm {v : Va} (h : ok v = true) : psP (fm v) = (v, 0) := by
  rw [fm_ok h]
  unfold psP
  rw [cd_fm h, fm_ok h, if_pos rfl]
theorem cd_nil : ok (cdP []) = true := by decide +kernel
theorem ps_ok {l : List UInt8} (h : (psP l).2 = 0) : ok (psP l).1 = true ∧ fm (psP l).1 = l := by
  unfold psP at *
  by_cases e : fm (cdP l) = l
  · rw [if_pos e]
    refine ⟨?_, e⟩
    show ok (cdP l) = true
    cases hk : ok (cdP l)
    · rw [fm_no hk] at e
      subst e
      rw [cd_nil] at hk
      cases hk
    · rfl
  · rw [if_neg e] at h; cases h
/-- asofref05.Parse. -/
def rsP (l : List UInt8) : Va × Int := if ok (gsP l) = true ∧ fm (gsP l) = l then (gsP l, 0) else (⟨0, 0, .empty⟩, 3)
theorem rs_ps (l : List UInt8) : rsP l = psP l := by
  by_cases h : (psP l).2 = 0
  · obtain ⟨h1, h2⟩ := ps_ok h
    have e1 : cdP l = (psP l).1 := by rw [← cd_fm h1, ← fm_ok h1, h2]
    have e2 : gsP l = (psP l).1 := by rw [← gs_fm h1, ← fm_ok h1, h2]
    unfold rsP
    rw [e2, if_pos ⟨h1, h2⟩]
    have : psP l = ((psP l).1, (psP l).2) := rfl
    rw [this, h]
  · have hn : ¬ (ok (gsP l) = true ∧ fm (gsP l) = l) := by
      rintro ⟨h1, h2⟩
      apply h
      rw [← h2, ps_fm h1]
    unfold rsP
    rw [if_neg hn]
    unfold psP at *
    split
    · rename_i e; rw [if_pos e] at h; exact absurd rfl h
    · rfl
end Go.Proofs.YtbahfelnbofjjaaGreatDoor

namespace Go.Proofs.YtbahfelnbofjjaaGreatDoor

structure Good {α : Type} (f : α → α → Int) : Prop where
  eq : ∀ x y, f x y = 0 ↔ x = y
  neg : ∀ x y, f y x = - f x y
  tr : ∀ x y z, f x y ≤ 0 → f y z ≤ 0 → f x z ≤ 0
def lex {α β : Type} (f : α → α → Int) (g : β → β → Int) (x y : α × β) : Int := if f x.1 y.1 = 0 then g x.2 y.2 else f x.1 y.1
theorem Good.lex {α β : Type} {f : α → α → Int} {g : β → β → Int} (hf : Good f) (hg : Good g) : Good (lex f g) := by
  refine ⟨fun x y => ?_, fun x y => ?_, fun x y z h1 h2 => ?_⟩
  · unfold Go.Proofs.YtbahfelnbofjjaaGreatDoor.lex
    have h1 := hf.eq x.1 y.1
    have h2 := hg.eq x.2 y.2
    by_cases h : f x.1 y.1 = 0
    · rw [if_pos h, h2]
      exact ⟨fun e => Prod.ext (h1.1 h) e, fun e => by rw [e]⟩
    · rw [if_neg h]
      exact ⟨fun e => absurd e h, fun e => absurd (h1.2 (by rw [e])) h⟩
  · unfold Go.Proofs.YtbahfelnbofjjaaGreatDoor.lex
    have h1 := hf.neg x.1 y.1
    by_cases h : f x.1 y.1 = 0
    · rw [if_pos h, if_pos (by omega), hg.neg]
    · rw [if_neg h, if_neg (by omega), h1]
  · unfold Go.Proofs.YtbahfelnbofjjaaGreatDoor.lex at *
    by_cases a : f x.1 y.1 = 0
    · rw [if_pos a] at h1
      have e1 := (hf.eq _ _).1 a
      by_cases b : f y.1 z.1 = 0
      · rw [if_pos b] at h2
        rw [e1, if_pos b]
        exact hg.tr _ _ _ h1 h2
      · rw [if_neg b] at h2
        rw [e1, if_neg b]
        exact h2
    · rw [if_neg a] at h1
      by_cases b : f y.1 z.1 = 0
      · have e2 := (hf.eq _ _).1 b
        rw [← e2, if_neg a]
        exact h1
      · rw [if_neg b] at h2
        have h3 := hf.tr _ _ _ h1 h2
        by_cases c : f x.1 z.1 = 0
        · exfalso
          have e3 := (hf.eq _ _).1 c
          have := hf.neg y.1 z.1
          rw [← e3] at this h2 b
          rw [this] at a
          omega
        · rw [if_neg c]
          exact h3

def cI (x y : Int) : Int := Lib.compareInt x y
theorem good_cI : Good cI := by
  refine ⟨fun x y => ?_, fun x y => ?_, fun x y z h1 h2 => ?_⟩
  · unfold cI Lib.compareInt; split <;> (try split) <;> omega
  · unfold cI Lib.compareInt; (repeat' split) <;> omega
  · unfold cI Lib.compareInt at *
    split at h1
    · split at h2
      · rw [if_pos (by omega)]; omega
      · split at h2
        · omega
        · rw [if_pos (by omega)]; omega
    · split at h1
      · omega
      · split at h2
        · rw [if_pos (by omega)]; omega
        · split at h2
          · omega
          · rw [if_neg (by omega), if_neg (by omega)]; omega

theorem less_irr : ∀ (l : List UInt8), Op.bytesLess l l = false
  | [] => rfl
  | a :: x => by rw [Op.bytesLess, less_irr x]; simp
theorem u8_lt {a b : UInt8} : (a < b) = (a.toNat < b.toNat) := rfl
theorem u8_eq {a b : UInt8} : (a = b) = (a.toNat = b.toNat) := propext ⟨fun h => by rw [h], fun h => UInt8.toNat_inj.1 h⟩
theorem less_cons (a b : UInt8) (x y : List UInt8) : Op.bytesLess (a :: x) (b :: y) = true ↔ a.toNat < b.toNat ∨ (a.toNat = b.toNat ∧ Op.bytesLess x y = true) := by
  rw [Op.bytesLess, Bool.or_eq_true, Bool.and_eq_true, decide_eq_true_eq, beq_iff_eq, u8_lt, u8_eq]
theorem less_tr : ∀ (x y z : List UInt8), Op.bytesLess x y = true → Op.bytesLess y z = true → Op.bytesLess x z = true
  | [], [], z, h, _ => by cases h
  | [], b :: y, [], _, h => by cases h
  | [], b :: y, c :: z, _, _ => rfl
  | a :: x, [], z, h, _ => by cases h
  | a :: x, b :: y, [], _, h => by cases h
  | a :: x, b :: y, c :: z, h1, h2 => by
    rw [less_cons] at *
    rcases h1 with h1 | ⟨h1, h1'⟩ <;> rcases h2 with h2 | ⟨h2, h2'⟩
    · omega
    · omega
    · omega
    · exact .inr ⟨by omega, less_tr x y z h1' h2'⟩
theorem less_tri : ∀ (x y : List UInt8), Op.bytesLess x y = false → x ≠ y → Op.bytesLess y x = true
  | [], [], _, h => absurd rfl h
  | [], b :: y, h, _ => by cases h
  | a :: x, [], _, _ => rfl
  | a :: x, b :: y, h, hne => by
    have h' : ¬ Op.bytesLess (a :: x) (b :: y) = true := by rw [h]; decide
    rw [less_cons] at h' ⊢
    by_cases e : a.toNat = b.toNat
    · refine .inr ⟨e.symm, less_tri x y ?_ ?_⟩
      · cases hx : Op.bytesLess x y
        · rfl
        · exact absurd (.inr ⟨e, hx⟩) h'
      · intro hxy
        apply hne
        rw [hxy, UInt8.toNat_inj.1 e]
    · exact .inl (by omega)
def cB (x y : List UInt8) : Int := if Op.bytesLess x y = true then -1 else if x = y then 0 else 1
theorem good_cB : Good cB := by
  refine ⟨fun x y => ?_, fun x y => ?_, fun x y z h1 h2 => ?_⟩
  · unfold cB
    by_cases h : Op.bytesLess x y = true
    · rw [if_pos h]
      refine ⟨fun e => absurd e (by decide), fun e => ?_⟩
      rw [e, less_irr] at h; cases h
    · rw [if_neg h]
      by_cases e : x = y
      · rw [if_pos e]; exact ⟨fun _ => e, fun _ => rfl⟩
      · rw [if_neg e]; exact ⟨fun h => absurd h (by decide), fun h => absurd h e⟩
  · unfold cB
    by_cases e : x = y
    · subst e
      rw [less_irr]; simp
    · cases h : Op.bytesLess x y
      · rw [less_tri x y h e, if_pos rfl, if_neg (by decide), if_neg e]
      · have : Op.bytesLess y x = false := by
          cases h' : Op.bytesLess y x
          · rfl
          · have := less_tr _ _ _ h h'
            rw [less_irr] at this; cases this
        rw [this, if_neg (by decide), if_neg (fun h => e h.symm), if_pos rfl]; rfl
  · unfold cB at *
    by_cases e1 : x = y
    · subst e1; exact h2
    by_cases e2 : y = z
    · subst e2; exact h1
    have l1 : Op.bytesLess x y = true := by
      cases h : Op.bytesLess x y
      · rw [h, if_neg (by decide), if_neg e1] at h1; omega
      · rfl
    have l2 : Op.bytesLess y z = true := by
      cases h : Op.bytesLess y z
      · rw [h, if_neg (by decide), if_neg e2] at h2; omega
      · rfl
    rw [if_pos (less_tr _ _ _ l1 l2)]
    decide
def cS (a b : ByteArray) : Int := cB a.toList b.toList
theorem toList_inj {a b : ByteArray} (h : a.toList = b.toList) : a = b := by
  rw [ByteArray.toList_eq, ByteArray.toList_eq] at h
  cases a; cases b
  simp only at h
  rw [Array.toList_inj.1 h]
theorem good_cS : Good cS :=
  ⟨fun x y => ⟨fun h => toList_inj ((good_cB.eq _ _).1 h), fun h => (good_cB.eq _ _).2 (by rw [h])⟩, fun x y => good_cB.neg _ _, fun x y z => good_cB.tr _ _ _⟩

/-- values.Compare. -/
def cV (a b : Va) : Int := lex cI (lex cI cS) (a.k, a.n, a.s) (b.k, b.n, b.s)
theorem good_cV : Good cV := by
  have g := good_cI.lex (good_cI.lex good_cS)
  refine ⟨fun x y => ?_, fun x y => g.neg _ _, fun x y z => g.tr _ _ _⟩
  unfold cV
  rw [g.eq]
  exact ⟨fun h => Va.ext' (congrArg (·.1) h) (congrArg (·.2.1) h) (congrArg (·.2.2) h), fun h => by rw [h]⟩
theorem cV_eq (a b : Va) : cV a b = if cI a.k b.k = 0 then (if cI a.n b.n = 0 then cS a.s b.s else cI a.n b.n) else cI a.k b.k := rfl
theorem cV_range (a b : Va) : -1 ≤ cV a b ∧ cV a b ≤ 1 := by
  have h1 : ∀ x y, -1 ≤ cI x y ∧ cI x y ≤ 1 := fun x y => by unfold cI Lib.compareInt; split <;> (try split) <;> omega
  have h2 : -1 ≤ cS a.s b.s ∧ cS a.s b.s ≤ 1 := by unfold cS cB; split <;> (try split) <;> omega
  have := h1 a.k b.k
  have := h1 a.n b.n
  rw [cV_eq]
  split
  · split <;> assumption
  · assumption
end Go.Proofs.YtbahfelnbofjjaaGreatDoor
namespace Go.Proofs.YtbahfelnbofjjaaGreatDoor
open Go.RowKit dec

/-- The table lexer.classes. -/
def clsTab : List Int := [0, 0, 0, 0, 0, 0, 0, 0, 0, 1, 2, 0, 0, 1, 0, 0, 0, 0, 0, 0, 0, 0, 0, 0, 0, 0, 0, 0, 0, 0, 0, 0, 1, 0, 7, 3, 0, 0, 0, 0, 8, 8, 8, 8, 8, 8, 0, 8, 5, 5, 5, 5, 5, 5, 5, 5, 5, 5, 8, 8, 8, 8, 0, 0, 8, 0, 0, 0, 0, 0, 0, 0, 0, 0, 0, 0, 0, 0, 0, 0, 0, 0, 0, 0, 0, 0, 0, 0, 0, 0, 0, 8, 0, 8, 8, 6, 0, 4, 4, 4, 4, 4, 4, 4, 4, 4, 4, 4, 4, 4, 4, 4, 4, 4, 4, 4, 4, 4, 4, 4, 4, 4, 4, 8, 0, 8]
/-- The tables and the two errors. -/
structure Tabs (w : World) : Prop where
  pow : Lib.TabIs Tryz.prog w "asof/decimal.powers" .i64 powTab
  ten : Lib.TabIs Tryz.prog w "internal/strconv.uint64pow10" .u64 Lib.pow10Tab
  syn : ∃ tp p, w.var? Tryz.prog "strconv.ErrSyntax" = some #[.iface tp p]
  ran : ∃ tp p, w.var? Tryz.prog "strconv.ErrRange" = some #[.iface tp p]
  cls : Lib.TabIs Tryz.prog w "asof/lexer.classes" .u8 clsTab
theorem gCls : Tryz.prog.globalNamed "asof/lexer.classes" = some 1 := by kernel_rfl
theorem gSyn : Tryz.prog.globalNamed "strconv.ErrSyntax" = some 7 := by kernel_rfl
theorem gRan : Tryz.prog.globalNamed "strconv.ErrRange" = some 8 := by kernel_rfl
theorem Tabs.stays {w w' : World} (h : Tabs w) (hb : Below w.heap.size w w') : Tabs w' := by
  obtain ⟨tp, p, h1⟩ := h.syn
  obtain ⟨tq, q, h2⟩ := h.ran
  exact ⟨tab_stays h.pow hb, tab_stays h.ten hb, ⟨tp, p, Go.Joins.var_stays gSyn h1 hb (Nat.le_refl _)⟩, ⟨tq, q, Go.Joins.var_stays gRan h2 hb (Nat.le_refl _)⟩, tab_stays h.cls hb⟩
theorem below_bytes (w : World) (e : TypeId) (s : ByteArray) : Below w.heap.size w (Lib.bytesWorld w e s) := by
  refine ⟨rfl, rfl, rfl, ?_, fun j hj => Lib.bytesWorld_at_old w e s j hj⟩
  rw [Lib.bytesWorld_size]
  omega
theorem atoi_any (s : ByteArray) (hs : s.size ≤ 1048576) (w : World) (T : Tabs w) :
    Calls Tryz.prog 143 #[.string s] w fun e w' => ∃ x, e = .returned (.tuple #[.int .i64 (atoiN s.data.toList), x]) ∧ Below w.heap.size w w' := by
  unfold atoiN
  rcases h : Lib.atoiAll s.data.toList with v | _ | _
  · refine (Tryz.strconv_Atoi_ok s (by omega) v h w).mono ?_
    rintro e w' ⟨rfl, rfl | ⟨t, rfl⟩⟩
    · exact ⟨_, rfl, b0 _⟩
    · exact ⟨_, rfl, below_bytes _ _ _⟩
  · obtain ⟨tp, p, h1⟩ := T.syn
    refine (Tryz.strconv_Atoi_syntax_var s (by omega) h tp p w h1).mono ?_
    rintro e w' ⟨N, rfl, h2⟩
    exact ⟨_, rfl, h2.2.2⟩
  · obtain ⟨tp, p, h1⟩ := T.ran
    refine (Tryz.strconv_Atoi_range_var s (by omega) h tp p w h1).mono ?_
    rintro e w' ⟨N, rfl, h2⟩
    exact ⟨_, rfl, h2.2.2⟩
end Go.Proofs.YtbahfelnbofjjaaGreatDoor

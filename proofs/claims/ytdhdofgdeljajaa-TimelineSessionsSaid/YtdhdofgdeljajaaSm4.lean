/-
  The reference of Bounds.
-/
import Derived.Test.YtdhdofgdeljajaaSm3
namespace Go.Proofs.Ytdhdofgdeljajaa
open Go.RowKit

def rwin (k s : Int) : Bool := if k = 1 then s == 0 else decide (2 ≤ k) && (decide (k ≤ 4) && isz s)
theorem rwin_any (k s : Int) (w : World) : Calls Try.prog 40 #[.agg #[.int .i64 k, .int .i64 s]] w fun e w' => e = .returned (.bool (rwin k s)) ∧ Below w.heap.size w w' := by
  by_cases k1 : k = 1
  · subst k1
    unfold rwin
    rw [if_pos rfl]
    go_enter Try.func40, Try.ntmps40
    go_wp2_with fail
    all_goals go_ret
    all_goals refine ⟨ret_bool ?_, balloc (b0 w) _⟩
    all_goals simp_all
  · unfold rwin
    rw [if_neg k1]
    have q1 : (k == 1) = false := by simpa using k1
    clear k1
    unfold isz
    go_enter Try.func40, Try.ntmps40
    go_wp2_with fail
    all_goals go_ret
    all_goals refine ⟨ret_bool ?_, balloc (b0 w) _⟩
    all_goals simp_all
    all_goals omega
theorem rwin_no {k s t : Int} (h : rwin k s = false) : bd k s t = ((0, 0), false) := by
  unfold rwin at h
  by_cases ht : 0 ≤ t ∧ t ≤ 1099511627776
  · rw [bd_in ht]
    split at h
    · rename_i k1
      rw [if_pos k1, if_neg (by simpa using h)]
    · rename_i k1
      rw [if_neg k1]
      simp only [Bool.and_eq_false_iff, decide_eq_false_iff_not] at h
      split
      · subst k
        rw [if_neg]
        rcases h with h | h | h
        · omega
        · omega
        · simp [h]
      · split
        · subst k
          rw [if_neg]
          rcases h with h | h | h
          · omega
          · omega
          · simp [h]
        · rfl
  · exact bd_out ht
theorem rwin_four {s t : Int} : bd 4 s t = ((0, 0), false) := by
  by_cases ht : 0 ≤ t ∧ t ≤ 1099511627776
  · rw [bd_in ht]; rfl
  · exact bd_out ht
theorem rwin_yes {k s t : Int} (h : rwin k s = true) (h4 : k ≠ 4) (ht : 0 ≤ t ∧ t ≤ 1099511627776) :
    (k = 2 → 1 ≤ s ∧ s ≤ 1099511627776 ∧ bd k s t = ((max 0 (t - s + 1), t), true)) ∧ (k = 3 → 1 ≤ s ∧ s ≤ 1099511627776 ∧ bd k s t = ((t - t % s, t), true)) ∧ (k ≠ 2 → k ≠ 3 → bd k s t = ((0, t), true)) := by
  unfold rwin at h
  rw [bd_in ht]
  split at h
  · rename_i k1
    subst k1
    have : s = 0 := by simpa using h
    subst this
    refine ⟨by omega, by omega, fun _ _ => rfl⟩
  · rename_i k1
    simp only [Bool.and_eq_true, decide_eq_true_eq] at h
    have hs := (isz_iff s).1 h.2.2
    refine ⟨fun e => ⟨hs.1, hs.2, ?_⟩, fun e => ⟨hs.1, hs.2, ?_⟩, fun _ _ => by omega⟩
    · subst e
      rw [if_neg k1, if_pos rfl, if_pos h.2.2, Int.max_comm]
    · subst e
      rw [if_neg k1, if_neg (by decide), if_pos rfl, if_pos h.2.2]
set_option maxHeartbeats 1000000 in
theorem rbounds_any (k s t : Int) (w : World) : Calls Try.prog 21 #[.agg #[.int .i64 k, .int .i64 s], .int .i64 t] w fun e w' => e = .returned (.tuple #[.agg #[.int .i64 (bd k s t).1.1, .int .i64 (bd k s t).1.2], .bool (bd k s t).2]) ∧ Below w.heap.size w w' := by
  have C1 := Lib.hid (rwin_any k s)
  have C2 := Lib.hid (rtick_b t)
  have A := (Bw.new w k s 35).past (.cells #[.int .i64 0, .int .i64 0] 23)
  have R := Bw.new (w.alloc (.cells #[.int .i64 k, .int .i64 s] 35)) 0 0 23
  have b1 := balloc (balloc (b0 w) (.cells #[.int .i64 k, .int .i64 s] 35)) (.cells #[.int .i64 0, .int .i64 0] 23)
  simp only [alloc_size] at A R
  have F1 := Lib.hid (fun h => rwin_no (k := k) (s := s) (t := t) h)
  have F2 : Hid (k = 4 → bd k s t = ((0, 0), false)) := fun e => by subst e; exact rwin_four
  have F3 : Hid ((decide (0 ≤ t) && decide (t ≤ 1099511627776)) = false → bd k s t = ((0, 0), false)) := fun e => bd_out (by simpa using e)
  have F4 := Lib.hid (fun h h4 ht => rwin_yes (k := k) (s := s) (t := t) h h4 ht)
  have F5 : Hid ((decide (0 ≤ t) && decide (t ≤ 1099511627776)) = true → 0 ≤ t ∧ t ≤ 1099511627776) := fun e => by simpa using e
  generalize bd k s t = P at *
  generalize rwin k s = z at *
  generalize (decide (0 ≤ t) && decide (t ≤ 1099511627776)) = o at *
  replace A := Lib.hid A
  replace R := Lib.hid R
  replace b1 := Lib.hid b1
  go_enter Try.func21, Try.ntmps21
  go_wp2_with fail
  refine (C1.out _).mono ?_
  rintro e w1 ⟨rfl, d⟩
  replace A := A.out.keeps d
  replace R := R.out.keeps d
  replace b1 := bnext b1.out d
  clear d C1
  have R1 := Lib.hid R
  have A1 := Lib.hid A
  obtain ⟨r0, r1, h0, h1⟩ := R
  obtain ⟨a0, a1, f0, f1⟩ := A
  cases z
  · obtain ⟨e1, e2, e3⟩ := bd_two (F1.out rfl)
    replace e1 := Lib.hid e1
    replace e2 := Lib.hid e2
    replace e3 := Lib.hid e3
    go_wp2_with fail
    obtain ⟨d0, d1, _, _⟩ := R1.out.put 0 0
    simp [bodyPost, results, Try.results21, go_sem, d0, d1]
    exact ⟨⟨⟨e1.out, e2.out⟩, e3.out.symm⟩, put_below b1 (by omega) _ _⟩
  clear F1
  by_cases k4 : k = 4
  · obtain ⟨e1, e2, e3⟩ := bd_two (F2.out k4)
    subst k4
    replace e1 := Lib.hid e1
    replace e2 := Lib.hid e2
    replace e3 := Lib.hid e3
    go_wp2_with fail
    obtain ⟨d0, d1, _, _⟩ := R1.out.put 0 0
    simp [bodyPost, results, Try.results21, go_sem, d0, d1]
    exact ⟨⟨⟨e1.out, e2.out⟩, e3.out.symm⟩, put_below b1 (by omega) _ _⟩
  have q4 : (k == 4) = false := by simpa using k4
  replace F4 := Lib.hid (F4.out rfl k4)
  clear F2 k4
  go_wp2_with fail
  refine (C2.out _).mono ?_
  rintro e w2 ⟨rfl, d⟩
  obtain ⟨a0, a1, f0, f1⟩ := A1.out.keeps d
  obtain ⟨r0, r1, h0, h1⟩ := R1.out.keeps d
  have R2 := Lib.hid (R1.out.keeps d)
  replace b1 := bnext b1 d
  clear d C2 R1 A1
  cases o
  · obtain ⟨e1, e2, e3⟩ := bd_two (F3.out rfl)
    replace e1 := Lib.hid e1
    replace e2 := Lib.hid e2
    replace e3 := Lib.hid e3
    go_wp2_with fail
    obtain ⟨d0, d1, _, _⟩ := R2.out.put 0 0
    simp [bodyPost, results, Try.results21, go_sem, d0, d1]
    exact ⟨⟨⟨e1.out, e2.out⟩, e3.out.symm⟩, put_below b1 (by omega) _ _⟩
  have hh := F5.out rfl
  replace F4 := Lib.hid (F4.out hh)
  obtain ⟨ht0, ht1⟩ := hh
  clear F3 F5
  by_cases k2 : k = 2
  · obtain ⟨hs0, hs1, hp⟩ := F4.out.1 k2
    subst k2
    obtain ⟨e1, e2, e3⟩ := bd_two hp
    clear hp
    have w1' : IntKind.i64.wrap (t - s) = t - s := by simp [IntKind.wrap, IntKind.bits, IntKind.signed]; omega
    have w2' : IntKind.i64.wrap (t - s + 1) = t - s + 1 := by simp [IntKind.wrap, IntKind.bits, IntKind.signed]; omega
    have m1 := max_walk 0 (t - s + 1)
    generalize max 0 (t - s + 1) = p at *
    replace e1 := Lib.hid e1
    replace e2 := Lib.hid e2
    replace e3 := Lib.hid e3
    go_wp2_with fail
    obtain ⟨d0, d1, _, _⟩ := R2.out.put p t
    simp [bodyPost, results, Try.results21, go_sem, d0, d1]
    exact ⟨⟨⟨e1.out, e2.out⟩, e3.out.symm⟩, put_below b1 (by omega) _ _⟩
  have q2 : (k == 2) = false := by simpa using k2
  by_cases k3 : k = 3
  · obtain ⟨hs0, hs1, hp⟩ := F4.out.2.1 k3
    subst k3
    clear k2
    obtain ⟨e1, e2, e3⟩ := bd_two hp
    clear hp
    have s0 : (s == 0) = false := by simp; omega
    have m0 : Int.tmod t s = t % s := Int.tmod_eq_emod_of_nonneg ht0
    have m1 : 0 ≤ t % s := Int.emod_nonneg _ (by omega)
    have m2 : t % s < s := Int.emod_lt_of_pos _ (by omega)
    generalize t % s = r at *
    have w1' : IntKind.i64.wrap r = r := by simp [IntKind.wrap, IntKind.bits, IntKind.signed]; omega
    have w2' : IntKind.i64.wrap (t - r) = t - r := by simp [IntKind.wrap, IntKind.bits, IntKind.signed]; omega
    replace e1 := Lib.hid e1
    replace e2 := Lib.hid e2
    replace e3 := Lib.hid e3
    go_wp2_with fail
    obtain ⟨d0, d1, _, _⟩ := R2.out.put (t - r) t
    simp [bodyPost, results, Try.results21, go_sem, d0, d1]
    exact ⟨⟨⟨e1.out, e2.out⟩, e3.out.symm⟩, put_below b1 (by omega) _ _⟩
  · have q3 : (k == 3) = false := by simpa using k3
    obtain ⟨e1, e2, e3⟩ := bd_two (F4.out.2.2 k2 k3)
    replace e1 := Lib.hid e1
    replace e2 := Lib.hid e2
    replace e3 := Lib.hid e3
    clear k3 k2
    go_wp2_with fail
    obtain ⟨d0, d1, _, _⟩ := R2.out.put 0 t
    simp [bodyPost, results, Try.results21, go_sem, d0, d1]
    exact ⟨⟨⟨e1.out, e2.out⟩, e3.out.symm⟩, put_below b1 (by omega) _ _⟩
end Go.Proofs.Ytdhdofgdeljajaa

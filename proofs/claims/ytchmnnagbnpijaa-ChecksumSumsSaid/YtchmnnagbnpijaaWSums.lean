/-
  The walks of ChecksumSums, ChecksumHashes and ChecksumSamples.
-/
import Derived.Test.YtchmnnagbnpijaaExample
import Derived.BigQuiet
namespace Go.Proofs.Ytchmnnagbnpijaa
open Go.RowKit

theorem walk_sums (s : Nat) (a : Option Addr) (n cap : Nat) (f : Nat → Nat) (w : World) (hs : s < 4294967296) (hA : At w a n f) (hc : n ≤ cap) (hc2 : cap ≤ 9223372036854775807) (hn : n ≤ 140737488351232) :
    Calls Try.prog 3 #[.int .u32 (s : Nat), .slice a n cap] w fun e w' => e = .returned (.bool true) ∧ Below w.heap.size w w' := by
  go_enter Try.func3, Try.ntmps3
  go_wp2_with fail
  refine (few_any a n cap 2000 w hc hc2).mono ?_
  rintro e w0 ⟨rfl, rfl⟩
  have hA := hA.less (Nat.min_le_left n 2000)
  have hm : min n 2000 ≤ 140737488351232 := by omega
  generalize min n 2000 = m at *
  go_wp2_with fail
  refine (example_any w).mono ?_
  rintro e w1 ⟨rfl, k⟩
  have A1 := hA.keeps k
  go_wp2_with fail
  refine (sum_any a m cap f w1 hm A1).mono ?_
  rintro e w2 ⟨rfl, hb⟩
  replace k := bnext k hb
  replace A1 := A1.keeps hb
  clear hb
  go_wp2_with fail
  refine (refSum_any a m cap f w2 hm A1).mono ?_
  rintro e w' ⟨rfl, rfl⟩
  go_wp2_with fail
  refine (extend_any s a m cap f w2 hs hm A1).mono ?_
  rintro e w3 ⟨rfl, hb⟩
  replace k := bnext k hb
  replace A1 := A1.keeps hb
  clear hb
  go_wp2_with fail
  refine (refExtend_any s a m cap f w3 hs hm A1).mono ?_
  rintro e w' ⟨rfl, rfl⟩
  go_wp2_with fail
  go_ret
  exact ⟨rfl, k⟩

theorem walk_hashes (s : Nat) (a : Option Addr) (n cap : Nat) (f : Nat → Nat) (w : World) (hs : s < 18446744073709551616) (hA : At w a n f) (hc : n ≤ cap) (hc2 : cap ≤ 9223372036854775807) (hn : n ≤ 140737488351232) :
    Calls Try.prog 4 #[.int .u64 (s : Nat), .slice a n cap] w fun e w' => e = .returned (.bool true) ∧ Below w.heap.size w w' := by
  go_enter Try.func4, Try.ntmps4
  go_wp2_with fail
  refine (few_any a n cap 4000 w hc hc2).mono ?_
  rintro e w0 ⟨rfl, rfl⟩
  have hA := hA.less (Nat.min_le_left n 4000)
  have hm : min n 4000 ≤ cap := by omega
  have hm2 : min n 4000 ≤ 140737488351232 := by omega
  generalize min n 4000 = m at *
  go_wp2_with fail
  refine (example_any w).mono ?_
  rintro e w1 ⟨rfl, k⟩
  have A1 := hA.keeps k
  go_wp2_with fail
  refine (hash_any s a m cap f w1 hs hm2 hm hc2 A1).mono ?_
  rintro e w' ⟨rfl, rfl⟩
  go_wp2_with fail
  refine (refHash_any s a m cap f w1 hs hm2 A1).mono ?_
  rintro e w' ⟨rfl, rfl⟩
  go_wp2_with fail
  go_ret
  exact ⟨rfl, k⟩

theorem smp_all (f : Nat → Nat) (n : Nat) (s : Int) : smp f n s 1000 = true := by unfold smp; rw [decide_eq_true_eq]; omega
theorem smp_none (f : Nat → Nat) (n : Nat) (s : Int) : smp f n s 0 = false := by unfold smp; rw [decide_eq_false_iff_not]; omega
theorem smp_more {f : Nat → Nat} {n : Nat} {s p : Int} (h : smp f n s p = true) (hp : p ≤ 1000) : smp f n s (p.tdiv 2 + 500) = true := by
  unfold smp at *
  rw [decide_eq_true_eq] at *
  rcases Int.lt_or_le p 0 with h0 | h0
  · omega
  · rw [Int.tdiv_eq_ediv_of_nonneg h0]
    omega

theorem walk_samples (s p : Int) (a : Option Addr) (n cap : Nat) (f : Nat → Nat) (w : World) (hp1 : -9223372036854775808 ≤ p) (hp2 : p ≤ 9223372036854775807) (hA : At w a n f) (hc : n ≤ cap) (hc2 : cap ≤ 9223372036854775807) (hn : n ≤ 140737488351232) :
    Calls Try.prog 5 #[.int .i64 s, .slice a n cap, .int .i64 p] w fun e w' => e = .returned (.bool true) ∧ Below w.heap.size w w' := by
  go_enter Try.func5, Try.ntmps5
  go_wp2_with fail
  refine (few_any a n cap 200 w hc hc2).mono ?_
  rintro e w0 ⟨rfl, rfl⟩
  have hA := hA.less (Nat.min_le_left n 200)
  have hm : min n 200 ≤ cap := by omega
  have hm2 : min n 200 ≤ 140737488351232 := by omega
  generalize min n 200 = m at *
  have hall := smp_all f m s
  have hnone := smp_none f m s
  have hmore := fun h => smp_more (f := f) (n := m) (s := s) (p := p) h
  have hq1 : -4611686018427387904 ≤ p.tdiv 2 ∧ p.tdiv 2 ≤ 4611686018427387903 := by
    rcases Int.lt_or_le p 0 with h0 | h0
    · have := Int.neg_tdiv (a := -p) (b := 2)
      rw [Int.neg_neg, Int.tdiv_eq_ediv_of_nonneg (a := -p) (by omega)] at this
      omega
    · rw [Int.tdiv_eq_ediv_of_nonneg h0]
      omega
  obtain ⟨hq2, hq3⟩ := hq1
  obtain ⟨b1, hb1⟩ : ∃ b1, smp f m s p = b1 := ⟨_, rfl⟩
  obtain ⟨b2, hb2⟩ : ∃ b2, smp f m s (p.tdiv 2 + 500) = b2 := ⟨_, rfl⟩
  have c1 := fun w h => sample_at (w := w) hb1 a cap hm2 hm hc2 h
  have r1 := fun w h => hb1 ▸ refSample_any s p a m cap f w hm2 h
  have c2 := fun w h => sample_at (w := w) hb2 a cap hm2 hm hc2 h
  have c3 := fun w h => sample_at (w := w) hall a cap hm2 hm hc2 h
  have c4 := fun w h => sample_at (w := w) hnone a cap hm2 hm hc2 h
  rw [hb1, hb2] at hmore
  clear hb1 hb2 hall hnone
  go_wp2_with fail
  refine (c1 w hA).mono ?_
  rintro e w' ⟨rfl, rfl⟩
  go_wp2_with fail
  refine (example_any w).mono ?_
  rintro e w1 ⟨rfl, k⟩
  have A1 := hA.keeps k
  go_wp2_with fail
  refine (r1 w1 A1).mono ?_
  rintro e w' ⟨rfl, rfl⟩
  by_cases hp : 1000 < p
  · rcases b1 with _ | _ <;> rcases b2 with _ | _
    all_goals
      clear hmore
      go_wp2_with fail
      refine (c2 w1 A1).mono ?_
      rintro e w' ⟨rfl, rfl⟩
      go_wp2_with fail
      refine (c3 w1 A1).mono ?_
      rintro e w' ⟨rfl, rfl⟩
      go_wp2_with fail
      refine (c4 w1 A1).mono ?_
      rintro e w' ⟨rfl, rfl⟩
      go_wp2_with fail
      go_ret
      exact ⟨rfl, k⟩
  · rcases b1 with _ | _
    · rcases b2 with _ | _
      all_goals
        clear hmore
        go_wp2_with fail
        refine (c2 w1 A1).mono ?_
        rintro e w' ⟨rfl, rfl⟩
        go_wp2_with fail
        refine (c3 w1 A1).mono ?_
        rintro e w' ⟨rfl, rfl⟩
        go_wp2_with fail
        refine (c4 w1 A1).mono ?_
        rintro e w' ⟨rfl, rfl⟩
        go_wp2_with fail
        go_ret
        exact ⟨rfl, k⟩
    · obtain rfl : b2 = true := hmore rfl (by omega)
      clear hmore
      go_wp2_with fail
      refine (c2 w1 A1).mono ?_
      rintro e w' ⟨rfl, rfl⟩
      go_wp2_with fail
      refine (c3 w1 A1).mono ?_
      rintro e w' ⟨rfl, rfl⟩
      go_wp2_with fail
      refine (c4 w1 A1).mono ?_
      rintro e w' ⟨rfl, rfl⟩
      go_wp2_with fail
      go_ret
      exact ⟨rfl, k⟩
end Go.Proofs.Ytchmnnagbnpijaa

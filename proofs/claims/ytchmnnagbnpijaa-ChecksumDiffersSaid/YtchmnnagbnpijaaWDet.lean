/-
  The walk of ChecksumDetects.
-/
import Derived.Test.YtchmnnagbnpijaaWExt
namespace Go.Proofs.Ytchmnnagbnpijaa
open Go.RowKit

theorem few_c {a : Option Addr} {n cap : Nat} {f : Nat → Nat} {w : World} (h : Lies w a n cap f) (m : Nat) (hm : m ≤ 140737488351232) :
    ∃ k, k = min n m ∧ k ≤ n ∧ k ≤ m ∧ Lies w a k cap f ∧ ∀ w, Calls Try.prog 10 #[.slice a n cap, .int .i64 m] w fun e w' => e = .returned (.slice a k cap) ∧ w = w' := by
  obtain ⟨h1, h2, h3, h4, h5⟩ := h
  exact ⟨min n m, rfl, Nat.min_le_left _ _, Nat.min_le_right _ _, ⟨h1.less (Nat.min_le_left _ _), by omega, h3, by omega, h5⟩, fun w => few_any a n cap m w h2 h3⟩

set_option maxRecDepth 100000 in
set_option maxHeartbeats 1000000 in
theorem detects_none (a : Option Addr) (n cap : Nat) (f : Nat → Nat) (at' : Int) (w : World) (bits : Nat) (hA : Lies w a n cap f) (h0 : n = 0 ∨ bits = 0) :
    Calls Try.prog 8 #[.slice a n cap, .int .i64 at', .int .u32 (bits : Nat)] w fun e w' => e = .returned (.bool true) ∧ Below w.heap.size w w' := by
  obtain ⟨n1, hn, l1, l2, hA, c1⟩ := few_c hA 500 (by omega)
  have h0' : n1 = 0 ∨ bits = 0 := by omega
  clear hn h0
  obtain ⟨A1, A2, A3, A4, A5⟩ := hA
  have O := Own.empty w w.heap.size (Nat.le_refl _) f
  have hb := balloc (b0 w) (.cells #[] 5)
  have A0 := A1.keeps hb
  rcases h0' with h | rfl
  · have ht : ((n1 : Int) == 0) = true := by rw [beq_iff_eq]; omega
    clear h
    go_enter Try.func8, Try.ntmps8
    go_wp2_with fail
    refine (c1 _).mono ?_
    rintro e w' ⟨rfl, rfl⟩
    go_wp2_with (at_builtin; refine wpList_app _ rfl (.tmp 13) (.tmp 15) rfl w.heap.size 0 _ f rfl O a n1 cap f rfl A0 A5 (by omega) hb.size ?_; intro v1 w1 O1 hb1; rw [Nat.zero_add, cat_zero] at O1; have k1 := hb.trans hb1; clear hb1 O hb A0 c1; obtain ⟨a1, cp1, rfl, _, _⟩ := O1.at A1.2; clear O1)
    refine (example_any _).mono ?_
    rintro e w2 ⟨rfl, hb⟩
    replace k1 := bnext k1 hb
    go_wp2_with fail
    go_ret
    exact ⟨rfl, k1⟩
  · by_cases h : n1 = 0
    · have ht : ((n1 : Int) == 0) = true := by rw [beq_iff_eq]; omega
      clear h
      go_enter Try.func8, Try.ntmps8
      go_wp2_with fail
      refine (c1 _).mono ?_
      rintro e w' ⟨rfl, rfl⟩
      go_wp2_with (at_builtin; refine wpList_app _ rfl (.tmp 13) (.tmp 15) rfl w.heap.size 0 _ f rfl O a n1 cap f rfl A0 A5 (by omega) hb.size ?_; intro v1 w1 O1 hb1; rw [Nat.zero_add, cat_zero] at O1; have k1 := hb.trans hb1; clear hb1 O hb A0 c1; obtain ⟨a1, cp1, rfl, _, _⟩ := O1.at A1.2; clear O1)
      refine (example_any _).mono ?_
      rintro e w2 ⟨rfl, hb⟩
      replace k1 := bnext k1 hb
      go_wp2_with fail
      go_ret
      exact ⟨rfl, k1⟩
    · have hne : ((n1 : Int) == 0) = false := by rw [beq_eq_false_iff_ne]; omega
      go_enter Try.func8, Try.ntmps8
      go_wp2_with fail
      refine (c1 _).mono ?_
      rintro e w' ⟨rfl, rfl⟩
      go_wp2_with (at_builtin; refine wpList_app _ rfl (.tmp 13) (.tmp 15) rfl w.heap.size 0 _ f rfl O a n1 cap f rfl A0 A5 (by omega) hb.size ?_; intro v1 w1 O1 hb1; rw [Nat.zero_add, cat_zero] at O1; have k1 := hb.trans hb1; clear hb1 O hb A0 c1; obtain ⟨a1, cp1, rfl, _, _⟩ := O1.at A1.2; clear O1)
      refine (example_any _).mono ?_
      rintro e w2 ⟨rfl, hb⟩
      replace k1 := bnext k1 hb
      go_wp2_with fail
      go_ret
      exact ⟨rfl, k1⟩
end Go.Proofs.Ytchmnnagbnpijaa

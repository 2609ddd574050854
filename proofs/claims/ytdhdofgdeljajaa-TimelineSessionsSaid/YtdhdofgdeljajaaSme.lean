/-
  The reference's Same, of two slices that hold the same list; few.
-/
import Derived.Test.YtdhdofgdeljajaaRbk
namespace Go.Proofs.Ytdhdofgdeljajaa
open Go.RowKit

theorem same_any (a : Option Addr) (cap : Nat) (b : Option Addr) (cap2 : Nat) (n : Nat) (l : List I2) (w : World) (hA : Sl w a n cap l) (hB : Sl w b n cap2 l) :
    Calls Try.prog 17 #[.slice a n cap, .slice b n cap2] w fun e w' => e = .returned (.bool true) ∧ Below w.heap.size w w' := by
  have h1 := Lib.hid hA
  have h2 := Lib.hid hB
  clear hA hB
  go_enter Try.func17, Try.ntmps17
  go_wp2_with fail
  go_loopw [5] (fun i wr => ∃ j : Nat, i = .int .i64 (j : Int) ∧ Hid (j ≤ n) ∧ Below w.heap.size w wr) (fun i _ => n - (intOf i).toNat)
  case atStart => exact ⟨0, rfl, Lib.hid (Nat.zero_le _), b0 w⟩
  case round =>
    obtain ⟨j, rfl, hj, hb⟩ := hrel
    by_cases hlt : j < n
    · have q1 : decide ((j : Int) < (n : Int)) = true := decide_eq_true (by omega)
      obtain ⟨A1, hn, hc, hm, _⟩ := h1.out.keeps hb
      obtain ⟨B1, hn2, hc2, hm2, _⟩ := h2.out.keeps hb
      obtain ⟨bk, off, rfl, hC⟩ := A1.resolve_left (by omega)
      obtain ⟨bk2, off2, rfl, hD⟩ := B1.resolve_left (by omega)
      obtain ⟨c0, c1⟩ := hC j (by omega)
      obtain ⟨d0, d1⟩ := hD j (by omega)
      have f4 : wrap64 ((j : Int) + 1) = ((j + 1 : Nat) : Int) := by rw [fitsW (by omega) (by omega)]; push_cast; rfl
      generalize (gt l j).1 = p at *
      generalize (gt l j).2 = q at *
      clear hC hD A1 B1 h1 h2
      go_wp2_with fail
      go_region
      go_wp2_with fail
      refine ⟨⟨j + 1, by first | rw [f4] | rfl, Lib.hid (by omega), hb.drew⟩, ?_⟩
      simp only [intOf]
      first | omega | (rw [f4]; omega)
    · have q1 : decide ((j : Int) < (n : Int)) = false := decide_eq_false (by omega)
      go_wp2_with fail
      go_ret
      exact ⟨rfl, hb⟩
def fewN (n : Nat) : Nat := if n ≤ 60 then n else 60
theorem fewN_le (n : Nat) : fewN n ≤ 60 ∧ fewN n ≤ n := by unfold fewN; split <;> omega
theorem few_any (a : Option Addr) (n cap : Nat) (w : World) (hn : n ≤ cap) (hc : cap ≤ 9223372036854775807) :
    Calls Try.prog 13 #[.slice a n cap, .int .i64 60] w fun e w' => e = .returned (.slice a (fewN n) cap) ∧ w = w' := by
  unfold fewN
  by_cases h : n ≤ 60
  · have q1 : decide ((60 : Int) < (n : Int)) = false := decide_eq_false (by omega)
    rw [if_pos h]
    go_enter Try.func13, Try.ntmps13
    go_wp2_with fail
    go_ret
    exact ⟨rfl, rfl⟩
  · have q1 : decide ((60 : Int) < (n : Int)) = true := decide_eq_true (by omega)
    have q2 : 60 ≤ cap := by omega
    rw [if_neg h]
    go_enter Try.func13, Try.ntmps13
    go_wp2_with fail
    go_ret
    exact ⟨rfl, rfl⟩
theorem fewI_any (a : Option Addr) (n cap : Nat) (w : World) (hn : n ≤ cap) (hc : cap ≤ 9223372036854775807) :
    Calls Try.prog 22 #[.slice a n cap, .int .i64 60] w fun e w' => e = .returned (.slice a (fewN n) cap) ∧ w = w' := by
  unfold fewN
  by_cases h : n ≤ 60
  · have q1 : decide ((60 : Int) < (n : Int)) = false := decide_eq_false (by omega)
    rw [if_pos h]
    go_enter Try.func22, Try.ntmps22
    go_wp2_with fail
    go_ret
    exact ⟨rfl, rfl⟩
  · have q1 : decide ((60 : Int) < (n : Int)) = true := decide_eq_true (by omega)
    have q2 : 60 ≤ cap := by omega
    rw [if_neg h]
    go_enter Try.func22, Try.ntmps22
    go_wp2_with fail
    go_ret
    exact ⟨rfl, rfl⟩
end Go.Proofs.Ytdhdofgdeljajaa

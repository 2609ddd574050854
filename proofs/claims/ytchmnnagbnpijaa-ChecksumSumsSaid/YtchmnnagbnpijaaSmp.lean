/-
  Sample and its reference; the first bytes of a slice.
-/
import Derived.Test.YtchmnnagbnpijaaHash2
import Derived.Test.YtchmnnagbnpijaaExt
namespace Go.Proofs.Ytchmnnagbnpijaa
open Go.RowKit

/-- The seed as a word. -/
def sd (s : Int) : Nat := (s % 18446744073709551616).toNat
theorem sd_lt (s : Int) : sd s < 18446744073709551616 := by unfold sd; omega
theorem sd_walk (s : Int) : IntKind.u64.wrap s = ((sd s : Nat) : Int) := by rw [IntKind.wrap_u64]; unfold sd; omega
/-- What Sample reports. -/
def smp (f : Nat → Nat) (n : Nat) (s p : Int) : Bool := decide (((hsh f n (sd s) % 1000 : Nat) : Int) < p)

theorem sample_any (s p : Int) (a : Option Addr) (n cap : Nat) (f : Nat → Nat) (w : World) (hn : n ≤ 140737488351232) (hc : n ≤ cap) (hc2 : cap ≤ 9223372036854775807) (hA : At w a n f) :
    Calls Try.prog 18 #[.int .i64 s, .slice a n cap, .int .i64 p] w fun e w' => e = .returned (.bool (smp f n s p)) ∧ w = w' := by
  have hx := hash_any (sd s) a n cap f w (sd_lt s) hn hc hc2 hA
  have e0 := sd_walk s
  have hs : smp f n s p = decide (((hsh f n (sd s) % 1000 : Nat) : Int) < p) := rfl
  generalize smp f n s p = r at *
  have HS := Lib.hid hs
  clear hs
  generalize sd s = S at *
  have hl := hsh_lt f n S
  generalize hsh f n S = H at *
  go_enter Try.func18, Try.ntmps18
  go_wp2_with fail
  refine hx.mono ?_
  rintro e w1 ⟨rfl, rfl⟩
  go_wp2_with fail
  go_ret
  exact ⟨by rw [HS.out]; rfl, rfl⟩
theorem refSample_any (s p : Int) (a : Option Addr) (n cap : Nat) (f : Nat → Nat) (w : World) (hn : n ≤ 140737488351232) (hA : At w a n f) :
    Calls Try.prog 19 #[.int .i64 s, .slice a n cap, .int .i64 p] w fun e w' => e = .returned (.bool (smp f n s p)) ∧ w = w' := by
  have hx := refHash_any (sd s) a n cap f w (sd_lt s) hn hA
  have e0 := sd_walk s
  have hs : smp f n s p = decide (((hsh f n (sd s) % 1000 : Nat) : Int) < p) := rfl
  generalize smp f n s p = r at *
  have HS := Lib.hid hs
  clear hs
  generalize sd s = S at *
  have hl := hsh_lt f n S
  generalize hsh f n S = H at *
  go_enter Try.func19, Try.ntmps19
  go_wp2_with fail
  refine hx.mono ?_
  rintro e w1 ⟨rfl, rfl⟩
  go_wp2_with fail
  go_ret
  exact ⟨by rw [HS.out]; rfl, rfl⟩

theorem few_any (a : Option Addr) (n cap m : Nat) (w : World) (hc : n ≤ cap) (_hc2 : cap ≤ 9223372036854775807) :
    Calls Try.prog 10 #[.slice a n cap, .int .i64 m] w fun e w' => e = .returned (.slice a (min n m) cap) ∧ w = w' := by
  by_cases h : m < n
  · rw [Nat.min_eq_right (by omega)]
    go_enter Try.func10, Try.ntmps10
    go_wp2_with fail
    go_ret
    exact ⟨rfl, rfl⟩
  · rw [Nat.min_eq_left (by omega)]
    go_enter Try.func10, Try.ntmps10
    go_wp2_with fail
    go_ret
    exact ⟨rfl, rfl⟩
end Go.Proofs.Ytchmnnagbnpijaa

/-
  Hash and its reference: the loop over the groups.
-/
import Derived.Test.YtchmnnagbnpijaaHash
namespace Go.Proofs.Ytchmnnagbnpijaa
open Go.RowKit

theorem At.skip {w : World} {b off n m : Nat} {f : Nat → Nat} (h : Bs w b off n f) (hf : ∀ j, j < n → f j < 256) (hm : m ≤ n) (a : Option Addr) (ha : m < n → a = some ⟨b, off + m, none⟩) : At w a (n - m) (fun i => f (m + i)) := by
  refine ⟨?_, fun j hj => hf _ (by omega)⟩
  by_cases he : m < n
  · exact .inr ⟨b, off + m, ha he, fun j hj => by rw [Nat.add_assoc]; exact h (m + j) (by omega)⟩
  · exact .inl (by omega)

theorem vi {k : IntKind} {a b : Int} (h : a = b) : Value.int k a = Value.int k b := by rw [h]
theorem h0_walk (n : Nat) : IntKind.u64.wrap ((n : Int) * 11400714819323198485) = ((n * 11400714819323198485 % 18446744073709551616 : Nat) : Int) := by
  rw [IntKind.wrap_u64]; omega
theorem plus_walk (x : Nat) : IntKind.u64.wrap ((x : Int) + 11400714819323198485) = (((x + 11400714819323198485) % 18446744073709551616 : Nat) : Int) := by
  rw [IntKind.wrap_u64]; omega

theorem hash_any (s : Nat) (a : Option Addr) (n cap : Nat) (f : Nat → Nat) (w : World) (hs : s < 18446744073709551616) (hn : n ≤ 140737488351232) (hc : n ≤ cap) (hc2 : cap ≤ 9223372036854775807) (hA : At w a n f) :
    Calls Try.prog 16 #[.int .u64 (s : Nat), .slice a n cap] w fun e w' => e = .returned (.int .u64 (hsh f n s : Nat)) ∧ w = w' := by
  have e0 := h0_walk n
  have e1 := x64 hs (show n * 11400714819323198485 % 18446744073709551616 < 18446744073709551616 by omega)
  have hh : hsh f n s = mix (hst f n (s ^^^ n * 11400714819323198485 % 18446744073709551616) ((n + 7) / 8)) := rfl
  have hl := h0_lt hs n
  generalize n * 11400714819323198485 % 18446744073709551616 = m at *
  generalize s ^^^ m = h0 at *
  have HH := Lib.hid hh
  clear hh
  go_enter Try.func16, Try.ntmps16
  go_wp2_with fail
  go_loop [1, 4] (fun x h => ∃ (j : Nat) (a' : Option Addr) (cap' : Nat), 8 * j < n + 8 ∧ At w a' (n - 8 * j) (fun i => f (8 * j + i)) ∧ n - 8 * j ≤ cap' ∧ cap' ≤ 9223372036854775807 ∧ x = .slice a' (n - 8 * j) cap' ∧ h = .int .u64 ((hst f n h0 j : Nat) : Int)) (fun x _ => match x with | .slice _ l _ => l | _ => 0)
  case atStart => exact ⟨0, a, cap, by omega, by simpa using hA, by omega, hc2, rfl, rfl⟩
  case round =>
    obtain ⟨j, a', cap', hj, hA', hc', hc2', rfl, rfl⟩ := hrel
    have hr := hst_lt (f := f) (n := n) hl j
    have hs1 := hst_succ f n h0 j
    by_cases hlt : 8 * j < n
    · have hg := grps_lt (f := f) (n := n) hA.2 j
      have e2 := x64 hr hg
      rw [grp_shift] at hs1 hg e2
      obtain ⟨b, off, rfl, hB⟩ := hA'.1.resolve_left (by omega)
      have hnext : ∀ a'', (8 < n - 8 * j → a'' = some ⟨b, off + 8, none⟩) → At w a'' (n - 8 * (j + 1)) (fun i => f (8 * (j + 1) + i)) := by
        intro a'' ha''
        have h1 := At.skip (m := min 8 (n - 8 * j)) hB hA'.2 (Nat.min_le_right _ _) a'' (by intro h; rw [ha'' (by omega), Nat.min_eq_left (by omega)])
        have h2 : n - 8 * j - min 8 (n - 8 * j) = n - 8 * (j + 1) := by omega
        rw [h2] at h1
        refine ⟨?_, fun i hi => hA.2 _ (by omega)⟩
        rcases h1.1 with h3 | ⟨b', off', e, h4⟩
        · exact .inl h3
        · refine .inr ⟨b', off', e, fun i hi => ?_⟩
          rw [h4 i hi, Nat.min_eq_left (by omega)]
          simp only []
          congr 4
          omega
      have HN := Lib.hid hnext
      clear hnext
      by_cases h8 : 8 < n - 8 * j
      · have hx := word_any (some ⟨b, off, none⟩) (8) cap' (fun i => f (8 * j + i)) w (by omega) (hA'.less (by omega))
        rw [show min 8 (n - 8 * j) = 8 by omega] at hs1 hg e2
        clear hB hA'
        generalize grp (fun i => f (8 * j + i)) 0 (8) = g at *
        generalize hst f n h0 j = h at *
        generalize h ^^^ g = y at *
        have e3 := plus_walk y
        have hz : (y + 11400714819323198485) % 18446744073709551616 < 18446744073709551616 := Nat.mod_lt _ (by decide)
        generalize (y + 11400714819323198485) % 18446744073709551616 = z at *
        have HS := Lib.hid hs1
        clear hs1
        generalize hL : n - 8 * j = L at *
        have hL0 : 0 < L := by omega
        have HL := Lib.hid hL
        clear hL

        go_wp2_with fail
        refine hx.mono ?_
        rintro e w1 ⟨rfl, rfl⟩
        go_wp2_with fail
        refine (mixed_any z w hz).mono ?_
        rintro e w1 ⟨rfl, rfl⟩
        go_wp2_with fail
        go_round
        case rel => exact ⟨j + 1, (some ⟨b, off + 8, none⟩), (cap' - 8), by have := HL.out; omega, HN.out _ (fun _ => rfl), by have := HL.out; omega, by omega, by rw [show n - 8 * (j + 1) = L - 8 by have := HL.out; omega], by rw [HS.out]⟩
        case measure => show L - 8 < L; omega
      · by_cases hcap : cap' = n - 8 * j
        · have hx := word_any (some ⟨b, off, none⟩) (n - 8 * j) cap' (fun i => f (8 * j + i)) w (by omega) (hA'.less (by omega))
          rw [show min 8 (n - 8 * j) = n - 8 * j by omega] at hs1 hg e2
          clear hB hA'
          generalize grp (fun i => f (8 * j + i)) 0 (n - 8 * j) = g at *
          generalize hst f n h0 j = h at *
          generalize h ^^^ g = y at *
          have e3 := plus_walk y
          have hz : (y + 11400714819323198485) % 18446744073709551616 < 18446744073709551616 := Nat.mod_lt _ (by decide)
          generalize (y + 11400714819323198485) % 18446744073709551616 = z at *
          have HS := Lib.hid hs1
          clear hs1
          generalize hL : n - 8 * j = L at *
          have hL0 : 0 < L := by omega
          have HL := Lib.hid hL
          clear hL
          subst hcap
          go_wp2_with fail
          refine hx.mono ?_
          rintro e w1 ⟨rfl, rfl⟩
          go_wp2_with fail
          refine (mixed_any z w hz).mono ?_
          rintro e w1 ⟨rfl, rfl⟩
          go_wp2_with fail
          go_round
          case rel => exact ⟨j + 1, (some ⟨b, off, none⟩), 0, by have := HL.out; omega, HN.out _ (fun h => absurd h h8), by have := HL.out; omega, by omega, by rw [show n - 8 * (j + 1) = 0 by have := HL.out; omega], by rw [HS.out]⟩
          case measure => show 0 < cap'; omega
        · have hx := word_any (some ⟨b, off, none⟩) (n - 8 * j) cap' (fun i => f (8 * j + i)) w (by omega) (hA'.less (by omega))
          rw [show min 8 (n - 8 * j) = n - 8 * j by omega] at hs1 hg e2
          clear hB hA'
          generalize grp (fun i => f (8 * j + i)) 0 (n - 8 * j) = g at *
          generalize hst f n h0 j = h at *
          generalize h ^^^ g = y at *
          have e3 := plus_walk y
          have hz : (y + 11400714819323198485) % 18446744073709551616 < 18446744073709551616 := Nat.mod_lt _ (by decide)
          generalize (y + 11400714819323198485) % 18446744073709551616 = z at *
          have HS := Lib.hid hs1
          clear hs1
          generalize hL : n - 8 * j = L at *
          have hL0 : 0 < L := by omega
          have HL := Lib.hid hL
          clear hL
          have hcl : L < cap' := by omega
          go_wp2_with fail
          refine hx.mono ?_
          rintro e w1 ⟨rfl, rfl⟩
          go_wp2_with fail
          refine (mixed_any z w hz).mono ?_
          rintro e w1 ⟨rfl, rfl⟩
          go_wp2_with fail
          go_round
          case rel => exact ⟨j + 1, (some ⟨b, off + L, none⟩), (cap' - L), by have := HL.out; omega, HN.out _ (fun h => absurd h h8), by have := HL.out; omega, by omega, by rw [show n - 8 * (j + 1) = 0 by have := HL.out; omega], by rw [HS.out]⟩
          case measure => show 0 < L; omega
    · have hj' : j = (n + 7) / 8 := by omega
      subst hj'
      generalize hst f n h0 ((n + 7) / 8) = h at *
      have hz : n - 8 * ((n + 7) / 8) = 0 := by omega
      rw [hz]
      clear hz
      go_wp2_with fail
      refine (mixed_any h w hr).mono ?_
      rintro e w1 ⟨rfl, rfl⟩
      go_wp2_with fail
      go_ret
      exact ⟨ret_int (by rw [HH.out]), rfl⟩
theorem refHash_any (s : Nat) (a : Option Addr) (n cap : Nat) (f : Nat → Nat) (w : World) (hs : s < 18446744073709551616) (hn : n ≤ 140737488351232) (hA : At w a n f) :
    Calls Try.prog 17 #[.int .u64 (s : Nat), .slice a n cap] w fun e w' => e = .returned (.int .u64 (hsh f n s : Nat)) ∧ w = w' := by
  have e0 := h0_walk n
  have e1 := x64 hs (show n * 11400714819323198485 % 18446744073709551616 < 18446744073709551616 by omega)
  have hh : hsh f n s = mix (hst f n (s ^^^ n * 11400714819323198485 % 18446744073709551616) ((n + 7) / 8)) := rfl
  have hl := h0_lt hs n
  generalize n * 11400714819323198485 % 18446744073709551616 = m at *
  generalize s ^^^ m = h0 at *
  have HH := Lib.hid hh
  clear hh
  go_enter Try.func17, Try.ntmps17
  go_wp2_with fail
  go_loop [5, 6] (fun h i => ∃ j : Nat, 8 * j < n + 8 ∧ i = .int .i64 ((8 * j : Nat) : Int) ∧ h = .int .u64 ((hst f n h0 j : Nat) : Int)) (fun _ i => n + 8 - (intOf i).toNat)
  case atStart => exact ⟨0, by omega, rfl, rfl⟩
  case round =>
    obtain ⟨j, hj, rfl, rfl⟩ := hrel
    have hr := hst_lt (f := f) (n := n) hl j
    have hs1 := hst_succ f n h0 j
    by_cases hlt : 8 * j < n
    · have hg := grps_lt (f := f) (n := n) hA.2 j
      have hx := refGroup_any a n cap (8 * j) f w hn hlt hA
      have e2 := x64 hr hg
      generalize grp f (8 * j) (min 8 (n - 8 * j)) = g at *
      generalize hst f n h0 j = h at *
      generalize h ^^^ g = y at *
      have e3 := plus_walk y
      have hz : (y + 11400714819323198485) % 18446744073709551616 < 18446744073709551616 := Nat.mod_lt _ (by decide)
      generalize (y + 11400714819323198485) % 18446744073709551616 = z at *
      have HS := Lib.hid hs1
      clear hs1
      generalize hi : 8 * j = i at *
      have HI := Lib.hid hi
      clear hi
      go_wp2_with fail
      refine hx.mono ?_
      rintro e w1 ⟨rfl, rfl⟩
      go_wp2_with fail
      refine (refMix_any z w hz).mono ?_
      rintro e w1 ⟨rfl, rfl⟩
      go_wp2_with fail
      go_round
      case rel => exact ⟨j + 1, by have := HI.out; omega, vi (by have := HI.out; omega), by rw [HS.out]⟩
      case measure => simp [intOf]; omega
    · have hj' : j = (n + 7) / 8 := by omega
      subst hj'
      generalize hst f n h0 ((n + 7) / 8) = h at *
      go_wp2_with fail
      refine (refMix_any h w hr).mono ?_
      rintro e w1 ⟨rfl, rfl⟩
      go_wp2_with fail
      go_ret
      exact ⟨ret_int (by rw [HH.out]), rfl⟩
end Go.Proofs.Ytchmnnagbnpijaa

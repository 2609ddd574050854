/-
  Extend and Sum32, by the table.
-/
import Derived.Test.YtegniedbiegcpaaTab
namespace Go.Proofs.Ytegniedbiegcpaa
open Go.RowKit

theorem not_walk {r : Nat} (hr : r < 4294967296) : bits .xor .u32 4294967295 (r : Int) = ((4294967295 ^^^ r : Nat) : Int) := x32 (show 4294967295 < 4294967296 by decide) hr
theorem extend_any (s : Nat) (a : Option Addr) (n cap : Nat) (f : Nat → Nat) (w : World) (hs : s < 4294967296) (hn : n ≤ 140737488351232) (hA : At w a n f) :
    Calls Try.prog 49 #[.int .u32 (s : Nat), .slice a n cap] w fun e w' => e = .returned (.int .u32 (crc f n s : Nat)) ∧ Below w.heap.size w w' := by
  have hsg : IntKind.u32.signed = false := rfl
  have hmx : IntKind.u32.max = 4294967295 := rfl
  go_enter Try.func49, Try.ntmps49
  go_wp2_with fail
  refine (steps_any _).mono ?_
  rintro e w1 ⟨rfl, hb⟩
  go_wp2_with fail
  have hT : ∀ j, j < 16 → (w1.alloc (.cells #[.int .u32 ((sts 4 0 : Nat) : Int), .int .u32 ((sts 4 1 : Nat) : Int), .int .u32 ((sts 4 2 : Nat) : Int), .int .u32 ((sts 4 3 : Nat) : Int), .int .u32 ((sts 4 4 : Nat) : Int), .int .u32 ((sts 4 5 : Nat) : Int), .int .u32 ((sts 4 6 : Nat) : Int), .int .u32 ((sts 4 7 : Nat) : Int), .int .u32 ((sts 4 8 : Nat) : Int), .int .u32 ((sts 4 9 : Nat) : Int), .int .u32 ((sts 4 10 : Nat) : Int), .int .u32 ((sts 4 11 : Nat) : Int), .int .u32 ((sts 4 12 : Nat) : Int), .int .u32 ((sts 4 13 : Nat) : Int), .int .u32 ((sts 4 14 : Nat) : Int), .int .u32 ((sts 4 15 : Nat) : Int)] 76)).cell? ⟨w1.heap.size, j, none⟩ = some (.int .u32 ((sts 4 j : Nat) : Int)) := by
    intro j hj
    have h : j = 0 ∨ j = 1 ∨ j = 2 ∨ j = 3 ∨ j = 4 ∨ j = 5 ∨ j = 6 ∨ j = 7 ∨ j = 8 ∨ j = 9 ∨ j = 10 ∨ j = 11 ∨ j = 12 ∨ j = 13 ∨ j = 14 ∨ j = 15 := by omega
    rcases h with rfl | rfl | rfl | rfl | rfl | rfl | rfl | rfl | rfl | rfl | rfl | rfl | rfl | rfl | rfl | rfl <;> simp [go_sem]
  have hb2 := balloc hb (.cells #[.int .u32 ((sts 4 0 : Nat) : Int), .int .u32 ((sts 4 1 : Nat) : Int), .int .u32 ((sts 4 2 : Nat) : Int), .int .u32 ((sts 4 3 : Nat) : Int), .int .u32 ((sts 4 4 : Nat) : Int), .int .u32 ((sts 4 5 : Nat) : Int), .int .u32 ((sts 4 6 : Nat) : Int), .int .u32 ((sts 4 7 : Nat) : Int), .int .u32 ((sts 4 8 : Nat) : Int), .int .u32 ((sts 4 9 : Nat) : Int), .int .u32 ((sts 4 10 : Nat) : Int), .int .u32 ((sts 4 11 : Nat) : Int), .int .u32 ((sts 4 12 : Nat) : Int), .int .u32 ((sts 4 13 : Nat) : Int), .int .u32 ((sts 4 14 : Nat) : Int), .int .u32 ((sts 4 15 : Nat) : Int)] 76)
  generalize w1.alloc (.cells #[.int .u32 ((sts 4 0 : Nat) : Int), .int .u32 ((sts 4 1 : Nat) : Int), .int .u32 ((sts 4 2 : Nat) : Int), .int .u32 ((sts 4 3 : Nat) : Int), .int .u32 ((sts 4 4 : Nat) : Int), .int .u32 ((sts 4 5 : Nat) : Int), .int .u32 ((sts 4 6 : Nat) : Int), .int .u32 ((sts 4 7 : Nat) : Int), .int .u32 ((sts 4 8 : Nat) : Int), .int .u32 ((sts 4 9 : Nat) : Int), .int .u32 ((sts 4 10 : Nat) : Int), .int .u32 ((sts 4 11 : Nat) : Int), .int .u32 ((sts 4 12 : Nat) : Int), .int .u32 ((sts 4 13 : Nat) : Int), .int .u32 ((sts 4 14 : Nat) : Int), .int .u32 ((sts 4 15 : Nat) : Int)] 76) = w2 at *
  generalize w1.heap.size = B at *
  clear hb
  have HT := Lib.hid hT
  clear hT
  replace hA := hA.keeps hb2
  obtain ⟨q0, hq0⟩ : ∃ q0, 4294967295 ^^^ s = q0 := ⟨_, rfl⟩
  have hq0l : q0 < 4294967296 := by rw [← hq0]; exact xor32 (by decide) hs
  have HQ := Lib.hid hq0
  clear hq0
  go_loop [6, 14] (fun r i => ∃ k : Nat, k ≤ n ∧ i = .int .i64 k ∧ r = .int .u32 ((reg f q0 k : Nat) : Int)) (fun _ i => n - (intOf i).toNat)
  case atStart => exact ⟨0, by omega, rfl, by rw [not_walk hs, HQ.out]; rfl⟩
  case round =>
    obtain ⟨k, hk, rfl, rfl⟩ := hrel
    have hr : reg f q0 k < 4294967296 := reg_lt k hq0l (fun i hi => hA.2 i (by omega))
    by_cases hlt : k < n
    · have hf := hA.2 k hlt
      obtain ⟨b, off, rfl, hB⟩ := hA.1.resolve_left (by omega)
      have hc := hB k hlt
      have hs1 := reg_succ f q0 k
      have e1 := x32 hr (show f k < 4294967296 by omega)
      have hq := xor32 hr (show f k < 4294967296 by omega)
      generalize reg f q0 k ^^^ f k = q at *
      have hs4 := sts_lt 4 hq
      have hm := sts_lt 4 (show q % 16 < 4294967296 by omega)
      have e2 := four_walk hq
      have t2 := HT.out (q % 16) (by omega)
      have h8 := sts_add 4 4 q
      have hm2 := sts_lt 4 (show sts 4 q % 16 < 4294967296 by omega)
      have e3 := four_walk hs4
      have t3 := HT.out (sts 4 q % 16) (by omega)
      have HS := Lib.hid (show reg f q0 (k + 1) = sts 4 (sts 4 q) by rw [hs1, ← h8])
      clear hs1 h8 hB
      generalize reg f q0 k = r at *
      generalize sts 4 (q % 16) = u at *
      generalize sts 4 (sts 4 q % 16) = u' at *
      go_wp2_with fail
      go_round
      case rel => exact ⟨k + 1, by omega, by go_num, by rw [HS.out]⟩
      case measure => simp [intOf]; omega
    · obtain rfl : k = n := by omega
      go_wp2_with fail
      go_ret
      exact ⟨ret_int (by rw [not_walk hr, ← HQ.out]; rfl), hb2⟩
theorem sum_any (a : Option Addr) (n cap : Nat) (f : Nat → Nat) (w : World) (hn : n ≤ 140737488351232) (hA : At w a n f) :
    Calls Try.prog 31 #[.slice a n cap] w fun e w' => e = .returned (.int .u32 (crc f n 0 : Nat)) ∧ Below w.heap.size w w' := by
  have hx := extend_any 0 a n cap f w (by decide) hn hA
  go_enter Try.func31, Try.ntmps31
  go_wp2_with fail
  refine hx.mono ?_
  rintro e w1 ⟨rfl, hb⟩
  go_wp2_with fail
  go_ret
  exact ⟨rfl, hb⟩

/-! The reference, bit by bit. -/
theorem step_walk {r : Nat} (hr : r < 4294967296) (h : r % 2 = 1) : bits .xor .u32 ((r : Int) / 2) 3988292384 = ((st r : Nat) : Int) := by
  have e3 : (r : Int) / 2 = ((r / 2 : Nat) : Int) := by omega
  rw [e3]
  have := x32 (show r / 2 < 4294967296 by omega) (show 3988292384 < 4294967296 by decide)
  unfold st
  rw [if_pos h]
  exact this
theorem half_walk {r : Nat} (h : ¬ r % 2 = 1) : (r : Int) / 2 = ((st r : Nat) : Int) := by
  unfold st
  rw [if_neg h]
  omega

theorem refExtend_any (s : Nat) (a : Option Addr) (n cap : Nat) (f : Nat → Nat) (w : World) (hs : s < 4294967296) (hn : n ≤ 140737488351232) (hA : At w a n f) :
    Calls Try.prog 57 #[.int .u32 (s : Nat), .slice a n cap] w fun e w' => e = .returned (.int .u32 (crc f n s : Nat)) ∧ w = w' := by
  have hsg : IntKind.u32.signed = false := rfl
  have hmx : IntKind.u32.max = 4294967295 := rfl
  go_enter Try.func57, Try.ntmps57
  go_wp2_with fail
  obtain ⟨q0, hq0⟩ : ∃ q0, 4294967295 ^^^ s = q0 := ⟨_, rfl⟩
  have hq0l : q0 < 4294967296 := by rw [← hq0]; exact xor32 (by decide) hs
  have HQ := Lib.hid hq0
  clear hq0
  go_loop [5, 6] (fun r i => ∃ k : Nat, k ≤ n ∧ i = .int .i64 k ∧ r = .int .u32 ((reg f q0 k : Nat) : Int)) (fun _ i => n - (intOf i).toNat)
  case atStart => exact ⟨0, by omega, rfl, by rw [not_walk hs, HQ.out]; rfl⟩
  case round =>
    obtain ⟨k, hk, rfl, rfl⟩ := hrel
    have hr : reg f q0 k < 4294967296 := reg_lt k hq0l (fun i hi => hA.2 i (by omega))
    by_cases hlt : k < n
    · have hf := hA.2 k hlt
      obtain ⟨b, off, rfl, hB⟩ := hA.1.resolve_left (by omega)
      have hc := hB k hlt
      have hs1 := reg_succ f q0 k
      have e1 := x32 hr (show f k < 4294967296 by omega)
      have hq := xor32 hr (show f k < 4294967296 by omega)
      generalize reg f q0 k ^^^ f k = q at *
      have HS := Lib.hid hs1
      clear hs1 hB
      generalize reg f q0 k = r at *
      go_wp2_with fail
      go_loop [5, 7] (fun r i => ∃ j : Nat, j ≤ 8 ∧ i = .int .i64 j ∧ r = .int .u32 ((sts j q : Nat) : Int)) (fun _ i => 8 - (intOf i).toNat)
      case atStart => exact ⟨0, by omega, rfl, rfl⟩
      case round =>
        obtain ⟨j, hj, rfl, rfl⟩ := hrel
        have hx : sts j q < 4294967296 := sts_lt j hq
        have hl := sts_last j q
        by_cases hlt2 : j < 8
        · generalize sts j q = x at *
          have HL := Lib.hid hl
          clear hl
          by_cases h2 : x % 2 = 1
          · have e2 := step_walk hx h2
            have h2' : (((x : Int) % 2) == 1) = true := by rw [beq_iff_eq]; omega
            clear h2
            go_wp2_with fail
            go_round
            case rel => exact ⟨j + 1, by omega, by go_num, by rw [HL.out]⟩
            case measure => simp [intOf]; omega
          · have e2 := half_walk h2
            have h2' : (((x : Int) % 2) == 1) = false := by rw [beq_eq_false_iff_ne]; omega
            clear h2
            go_wp2_with fail
            go_round
            case rel => exact ⟨j + 1, by omega, by go_num, by rw [HL.out]⟩
            case measure => simp [intOf]; omega
        · obtain rfl : j = 8 := by omega
          clear hl
          go_wp2_with fail
          go_round
          case rel => exact ⟨k + 1, by omega, by go_num, by rw [HS.out]⟩
          case measure => simp [intOf]; omega
    · obtain rfl : k = n := by omega
      go_wp2_with fail
      go_ret
      exact ⟨ret_int (by rw [not_walk hr, ← HQ.out]; rfl), rfl⟩
theorem refSum_any (a : Option Addr) (n cap : Nat) (f : Nat → Nat) (w : World) (hn : n ≤ 140737488351232) (hA : At w a n f) :
    Calls Try.prog 50 #[.slice a n cap] w fun e w' => e = .returned (.int .u32 (crc f n 0 : Nat)) ∧ w = w' := by
  have hx := refExtend_any 0 a n cap f w (by decide) hn hA
  go_enter Try.func50, Try.ntmps50
  go_wp2_with fail
  refine hx.mono ?_
  rintro e w1 ⟨rfl, rfl⟩
  go_wp2_with fail
  go_ret
  exact ⟨rfl, rfl⟩
end Go.Proofs.Ytegniedbiegcpaa

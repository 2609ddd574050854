/-
  Appending to nil; the lengths of encodings.
-/
import Derived.Test.YtegniedbiegcpaaExample
namespace Go.Proofs.Ytegniedbiegcpaa
open Go.RowKit

theorem au_any (v N : Nat) (w : World) (hv : v < 18446744073709551616) (hN : (en v).length = N) : Calls Try.prog 14 #[.slice none 0 0, .int .u64 (v : Nat)] w fun e w' => e = .returned (.slice (some ⟨w.heap.size, 0, none⟩) N 10) ∧ AtL w' (some ⟨w.heap.size, 0, none⟩) (en v) ∧ Below w.heap.size w w' :=
  (appendUint_any none 0 0 v [] w (li_nil w) (by omega) hv N (by omega)).mono fun e w' ⟨h1, h2, h3⟩ => ⟨h1, h2.at, h3⟩
theorem ai_any (z : Int) (N : Nat) (w : World) (h1 : -9223372036854775808 ≤ z) (h2 : z ≤ 9223372036854775807) (hN : (en (fold z)).length = N) : Calls Try.prog 17 #[.slice none 0 0, .int .i64 z] w fun e w' => e = .returned (.slice (some ⟨w.heap.size, 0, none⟩) N 10) ∧ AtL w' (some ⟨w.heap.size, 0, none⟩) (en (fold z)) ∧ Below w.heap.size w w' :=
  (appendInt_any none 0 0 z [] w (li_nil w) (by omega) h1 h2 N (by omega)).mono fun e w' ⟨h1, h2, h3⟩ => ⟨h1, h2.at, h3⟩
theorem at_any (s : ByteArray) (N : Nat) (w : World) (hs : s.size ≤ 140737488351232) (hN : (en s.size).length + s.size = N) : Calls Try.prog 19 #[.slice none 0 0, .string s] w fun e w' => e = .returned (.slice (some ⟨w.heap.size, 0, none⟩) N (s.size + 10)) ∧ AtL w' (some ⟨w.heap.size, 0, none⟩) (en s.size ++ sl s) ∧ Below w.heap.size w w' :=
  (appendText_any none 0 0 s [] w (li_nil w) hs (by omega) N (by omega)).mono fun e w' ⟨h1, h2, h3⟩ => ⟨by rw [h1, Nat.zero_add], h2.at, h3⟩

theorem at_list (t : List Nat) (N : Nat) (w : World) (hb : By t) (hs : t.length ≤ 140737488351232) (hN : (en t.length ++ t).length = N) : Calls Try.prog 19 #[.slice none 0 0, .string (st_of t)] w fun e w' => e = .returned (.slice (some ⟨w.heap.size, 0, none⟩) N (t.length + 10)) ∧ AtL w' (some ⟨w.heap.size, 0, none⟩) (en t.length ++ t) ∧ Below w.heap.size w w' := by
  have h := at_any (st_of t) N w (by rw [st_of_size]; exact hs) (by rw [st_of_size, ← hN, List.length_append])
  rw [st_of_size, sl_st_of hb] at h
  exact h

theorem af_any (a : Option Addr) (m cap : Nat) (r : List Nat) (N : Nat) (w : World) (hB : Li w a m cap r) (hl : m ≤ 140737488351232) (hN : (en m).length + m + 4 = N) : Calls Try.prog 21 #[.slice none 0 0, .slice a m cap] w fun e w' => e = .returned (.slice (some ⟨w.heap.size, 0, none⟩) N (m + 14)) ∧ AtL w' (some ⟨w.heap.size, 0, none⟩) (en m ++ (r ++ le4 (cs r))) ∧ Below w.heap.size w w' := by
  exact (appendFrame_any none 0 0 [] a m cap r w (li_nil w) hB hl (by omega) N (by omega)).mono fun e w' ⟨h1, h2, h3⟩ => ⟨by rw [h1, Nat.zero_add], h2.at, h3⟩

/-- How many binary digits. -/
def bl (n : Nat) : Nat := if n = 0 then 0 else bl (n / 2) + 1
termination_by n
decreasing_by omega
theorem bl_zero : bl 0 = 0 := by rw [bl]; rfl
theorem bl_step {n : Nat} (h : n ≠ 0) : bl n = bl (n / 2) + 1 := by rw [bl, if_neg h]
theorem bl_pos {n : Nat} (h : n ≠ 0) : 1 ≤ bl n := by rw [bl_step h]; omega
theorem bl_le : ∀ (k n : Nat), n < 2 ^ k → bl n ≤ k := by
  intro k
  induction k with
  | zero => intro n h; rw [show n = 0 by simpa using h, bl_zero]; exact Nat.le_refl _
  | succ k ih =>
    intro n h
    by_cases h0 : n = 0
    · rw [h0, bl_zero]; omega
    · rw [bl_step h0]
      have := ih (n / 2) (by rw [Nat.pow_succ] at h; omega)
      omega
theorem bl_128 {n : Nat} (h : ¬ n < 128) : bl n = bl (n / 128) + 7 := by
  rw [bl_step (n := n) (by omega), bl_step (n := n / 2) (by omega), bl_step (n := n / 2 / 2) (by omega), bl_step (n := n / 2 / 2 / 2) (by omega), bl_step (n := n / 2 / 2 / 2 / 2) (by omega), bl_step (n := n / 2 / 2 / 2 / 2 / 2) (by omega), bl_step (n := n / 2 / 2 / 2 / 2 / 2 / 2) (by omega)]
  rw [show n / 2 / 2 / 2 / 2 / 2 / 2 / 2 = n / 128 by omega]
theorem en_bits (n : Nat) : (en n).length = max 1 ((bl n + 6) / 7) := by
  induction n using Nat.strongRecOn with
  | _ n ih =>
    by_cases h : n < 128
    · rw [en_small h, List.length_singleton]
      have := bl_le 7 n h
      omega
    · rw [en_big h, List.length_cons, ih (n / 128) (by omega), bl_128 h]
      have := bl_pos (n := n / 128) (by omega)
      omega
theorem en_pair (k : Nat) : (en (2 * k)).length = (en (2 * k + 1)).length := by
  by_cases h : 2 * k < 128
  · rw [en_small h, en_small (by omega)]; rfl
  · rw [en_big h, en_big (n := 2 * k + 1) (by omega), List.length_cons, List.length_cons, show (2 * k + 1) / 128 = 2 * k / 128 by omega]
theorem en_sign (z : Int) : (en (fold z)).length = (en (fold (-(z + 1)))).length := by
  by_cases h : z < 0
  · have e1 : fold z = 2 * (-(z + 1)).toNat + 1 := by unfold fold; rw [if_pos h]
    have e2 : fold (-(z + 1)) = 2 * (-(z + 1)).toNat := by unfold fold; rw [if_neg (by omega)]
    rw [e1, e2, en_pair]
  · have e1 : fold z = 2 * z.toNat := by unfold fold; rw [if_neg h]
    have e2 : fold (-(z + 1)) = 2 * z.toNat + 1 := by unfold fold; rw [if_pos (by omega)]; omega
    rw [e1, e2, en_pair]

theorem neg_wrap {z : Int} (h1 : -9223372036854775808 ≤ z) (h2 : z ≤ 9223372036854775807) : wrap64 (-wrap64 (z + 1)) = -(z + 1) := by
  simp only [wrap64]
  omega

set_option maxRecDepth 100000 in
set_option maxHeartbeats 1000000 in
theorem walk_lengths (n m : Nat) (z : Int) (w : World) (hn : n < 18446744073709551616) (hm : m < 18446744073709551616) (h1 : -9223372036854775808 ≤ z) (h2 : z ≤ 9223372036854775807) :
    Calls Try.prog 9 #[.int .u64 (n : Nat), .int .u64 (m : Nat), .int .i64 z] w fun e w' => e = .returned (.bool true) ∧ Below w.heap.size w w' := by
  obtain ⟨L, hL⟩ : ∃ L, (en n).length = L := ⟨_, rfl⟩
  obtain ⟨M, hM⟩ : ∃ M, (en m).length = M := ⟨_, rfl⟩
  obtain ⟨K, hK⟩ : ∃ K, (en (fold z)).length = K := ⟨_, rfl⟩
  have hK2 : (en (fold (-(z + 1)))).length = K := by rw [← en_sign, hK]
  have hbits := en_bits n
  rw [hL] at hbits
  have hL10 := en_ten hn
  have hmono : n ≤ m → L ≤ M := fun h => by rw [← hL, ← hM]; exact en_mono h
  have c1 := fun w => au_any n L w hn hL
  have c2 := fun w => au_any m M w hm hM
  have c3 := fun w => ai_any z K w h1 h2 hK
  have c4 : ∀ w, Calls Try.prog 17 #[.slice none 0 0, .int .i64 (wrap64 (-wrap64 (z + 1)))] w fun e w' => e = .returned (.slice (some ⟨w.heap.size, 0, none⟩) K 10) ∧ AtL w' (some ⟨w.heap.size, 0, none⟩) (en (fold (-(z + 1)))) ∧ Below w.heap.size w w' := fun w => by
    rw [neg_wrap h1 h2]
    exact ai_any (-(z + 1)) K w (by omega) (by omega) hK2
  rw [hL] at hL10
  have hk := en_ten (fold_lt h1 h2)
  rw [hK] at hk
  have HK := Lib.hid hk
  clear hk
  have C1 := Lib.hid c1
  have C2 := Lib.hid c2
  have C3 := Lib.hid c3
  have C4 := Lib.hid c4
  have HB := Lib.hid hbits
  have HM := Lib.hid hmono
  have HN := Lib.hid hn
  have H1 := Lib.hid h1
  have H2 := Lib.hid h2
  clear c1 c2 c3 c4 hbits hmono hn hm h1 h2 hL hM hK hK2
  go_enter Try.func9, Try.ntmps9
  go_wp2_with fail
  refine (example_any _).mono ?_
  rintro e w1 ⟨rfl, k⟩
  go_wp2_with fail
  refine (C1.out _).mono ?_
  rintro e w2 ⟨rfl, A2, b⟩
  replace k := bnext k b
  clear b A2
  go_wp2_with fail
  go_loop [9, 10] (fun d x => ∃ (j u : Nat), d = .int .i64 j ∧ x = .int .u64 u ∧ j + bl u = bl n ∧ u < 18446744073709551616 ∧ j ≤ 64) (fun _ x => (intOf x).toNat)
  case atStart => exact ⟨0, n, rfl, rfl, by omega, HN.out, by omega⟩
  case round =>
    obtain ⟨j, u, rfl, rfl, hj, hu, hj64⟩ := hrel
    have HU := Lib.hid hu
    have HJ := Lib.hid hj
    have h64 : bl n ≤ 64 := bl_le 64 n HN.out
    by_cases h0 : u = 0
    · subst h0
      rw [bl_zero] at hj
      have hB := HB.out
      have hmax : (if (1 : Int) < ((j : Int) + 6) / 7 then ((j : Int) + 6) / 7 else 1) = (L : Int) := by
        rw [hB, ← hj]
        split <;> omega
      have hmax' : (if ((j : Int) + 6) / 7 > (1 : Int) then ((j : Int) + 6) / 7 else 1) = (L : Int) := hmax
      clear hu hj h64 hB HU HJ hmax'
      have q1 : ((L : Int) != (L : Int)) = false := by simp
      by_cases hnm : n ≤ m
      · have hLM := HM.out hnm
        have q2 : decide ((n : Int) ≤ (m : Int)) = true := decide_eq_true (by omega)
        have q2' : decide (n ≤ m) = true := decide_eq_true hnm
        have q3 : decide ((M : Int) < (L : Int)) = false := decide_eq_false (by omega)
        have q3' : decide (M < L) = false := decide_eq_false (by omega)
        go_wp2_with fail
        refine (C2.out _).mono ?_
        rintro e w3 ⟨rfl, A3, b⟩
        replace k := bnext k b
        clear b A3
        go_wp2_with fail
        refine (C3.out _).mono ?_
        rintro e w4 ⟨rfl, A4, b⟩
        replace k := bnext k b
        clear b A4
        go_wp2_with fail
        refine (C4.out _).mono ?_
        rintro e w5 ⟨rfl, A5, b⟩
        replace k := bnext k b
        clear b A5
        have q5 : decide ((K : Int) - (K : Int) ≤ 1) = true := by simp
        have q6 := HK.out
        go_wp2_with fail
        go_ret
        exact ⟨rfl, k⟩
      · have q2 : decide ((n : Int) ≤ (m : Int)) = false := decide_eq_false (by omega)
        have q2' : decide (n ≤ m) = false := decide_eq_false hnm
        go_wp2_with fail
        refine (C3.out _).mono ?_
        rintro e w4 ⟨rfl, A4, b⟩
        replace k := bnext k b
        clear b A4
        go_wp2_with fail
        refine (C4.out _).mono ?_
        rintro e w5 ⟨rfl, A5, b⟩
        replace k := bnext k b
        clear b A5
        have q5 : decide ((K : Int) - (K : Int) ≤ 1) = true := by simp
        have q6 := HK.out
        go_wp2_with fail
        go_ret
        exact ⟨rfl, k⟩
    · have hs := bl_step h0
      have hB : decide ((0 : Int) < u) = true := decide_eq_true (by omega)
      have hB' : 0 < u := by omega
      have hq : IntKind.u64.wrap ((u : Int) / 2) = ((u / 2 : Nat) : Int) := by rw [IntWalk.u64_in] <;> omega
      have hb1 := bl_pos h0
      have hj2 : j + 1 ≤ 64 := by omega
      clear hj hs hu hb1 h64
      go_wp2_with fail
      refine ⟨⟨j + 1, u / 2, by go_num, by simp, by have := bl_step h0; have := HJ.out; omega, by have := HU.out; omega, hj2⟩, ?_⟩
      simp only [intOf]
      omega
end Go.Proofs.Ytegniedbiegcpaa

/-
  The reference's Format: for every value.
-/
import Derived.Test.YtnkdclodmeaihaaGreatDoorRdi
import Derived.Test.YtnkdclodmeaihaaGreatDoorRck
namespace Go.Proofs.YtnkdclodmeaihaaGreatDoor
open Go.RowKit dec

theorem rdig05_any (n : Int) (h1 : -1152921504606846976 ≤ n) (h2 : n ≤ 1152921504606846976) (w : World) : Calls Tryz.prog 28 #[.int .i64 n] w fun e w' => e = .returned (.string ⟨(Lib.itoa n).toArray⟩) ∧ Below w.heap.size w w' := by
  unfold Lib.itoa
  by_cases h : n < 0
  · obtain ⟨u, rfl⟩ : ∃ u : Nat, n = -(u : Int) := ⟨n.natAbs, by omega⟩
    rw [if_pos h, show (-(u : Int)).natAbs = u by omega]
    exact digits05_neg u (by omega) (by omega) w
  · obtain ⟨u, rfl⟩ : ∃ u : Nat, n = (u : Int) := ⟨n.toNat, by omega⟩
    rw [if_neg h, Int.toNat_natCast]
    exact digits05_pos u (by omega) w
theorem rfmt02_any (n : Int) (h1 : -1152921504606846976 ≤ n) (h2 : n ≤ 1152921504606846976) (w : World) : Calls Tryz.prog 29 #[.int .i64 n] w fun e w' => e = .returned (.string ⟨(foX n).toArray⟩) ∧ Below w.heap.size w w' := by
  rw [fo_eq]
  by_cases h : n < 0
  · obtain ⟨u, rfl⟩ : ∃ u : Nat, n = -(u : Int) := ⟨n.natAbs, by omega⟩
    rw [if_pos h, show (-(u : Int)).natAbs = u by omega, List.singleton_append]
    exact format02_neg u (by omega) (by omega) w
  · obtain ⟨u, rfl⟩ : ∃ u : Nat, n = (u : Int) := ⟨n.toNat, by omega⟩
    rw [if_neg h, show ((u : Int)).natAbs = u by omega, List.nil_append]
    exact format02_pos u (by omega) w
theorem rfmt_no (k n : Int) (s : ByteArray) (hs : s.size ≤ 1000) (w : World) (hk : ok ⟨k, n, s⟩ = false) : Calls Tryz.prog 10 #[.agg #[.int .i64 k, .int .i64 n, .string s]] w fun e w' => e = .returned (.string ⟨([] : List UInt8).toArray⟩) ∧ Below w.heap.size w w' := by
  have C1 := Lib.hid (valid_any k n s (by omega))
  rw [hk] at C1
  go_enter Tryz.func10, Tryz.ntmps10
  go_wp2_with fail
  refine (C1.out _).mono ?_
  rintro e w1 ⟨rfl, b1⟩
  replace b1 := (balloc (b0 w) _).trans (b1.mono (by simp))
  go_wp2_with fail
  go_ret
  exact ⟨rfl, b1⟩
theorem rfmt_plain (k n : Int) (l : List UInt8) (hl : (k = 0 ∧ l = [110, 117, 108, 108]) ∨ (k = 1 ∧ n = 1 ∧ l = [116, 114, 117, 101]) ∨ (k = 1 ∧ n = 0 ∧ l = [102, 97, 108, 115, 101])) (w : World) (hk : ok ⟨k, n, .empty⟩ = true) : Calls Tryz.prog 10 #[.agg #[.int .i64 k, .int .i64 n, .string .empty]] w fun e w' => e = .returned (.string ⟨l.toArray⟩) ∧ Below w.heap.size w w' := by
  have C1 := Lib.hid (valid_any k n .empty (by decide))
  have V0 := Vx.new w k n .empty 23
  rw [hk] at C1
  clear hk
  rcases hl with ⟨rfl, rfl⟩ | ⟨rfl, rfl, rfl⟩ | ⟨rfl, rfl, rfl⟩
  all_goals
    go_enter Tryz.func10, Tryz.ntmps10
    go_wp2_with fail
    refine (C1.out _).mono ?_
    rintro e w1 ⟨rfl, b1⟩
    obtain ⟨c0, c1, c2⟩ := V0.keeps b1
    replace b1 := (balloc (b0 w) _).trans (b1.mono (by simp))
    go_wp2_with fail
    go_ret
    exact ⟨rfl, b1⟩
theorem rfmt_num2 (n : Int) (h1 : -1152921504606846976 ≤ n) (h2 : n ≤ 1152921504606846976) (w : World) (hk : ok ⟨2, n, .empty⟩ = true) : Calls Tryz.prog 10 #[.agg #[.int .i64 2, .int .i64 n, .string .empty]] w fun e w' => e = .returned (.string ⟨(Lib.itoa n).toArray⟩) ∧ Below w.heap.size w w' := by
  have C1 := Lib.hid (valid_any 2 n .empty (by decide))
  have C2 := Lib.hid (rdig05_any n h1 h2)
  have V0 := Vx.new w 2 n .empty 23
  rw [hk] at C1
  generalize Lib.itoa n = l at *
  clear hk h1 h2
  go_enter Tryz.func10, Tryz.ntmps10
  go_wp2_with fail
  refine (C1.out _).mono ?_
  rintro e w1 ⟨rfl, b1⟩
  obtain ⟨c0, c1, c2⟩ := V0.keeps b1
  replace b1 := (balloc (b0 w) _).trans (b1.mono (by simp))
  go_wp2_with fail
  refine (C2.out _).mono ?_
  rintro e w2 ⟨rfl, b2⟩
  go_wp2_with fail
  go_ret
  exact ⟨rfl, bnext b1 b2⟩
theorem rfmt_num3 (n : Int) (h1 : -1152921504606846976 ≤ n) (h2 : n ≤ 1152921504606846976) (w : World) (hk : ok ⟨3, n, .empty⟩ = true) : Calls Tryz.prog 10 #[.agg #[.int .i64 3, .int .i64 n, .string .empty]] w fun e w' => e = .returned (.string ⟨(foX n).toArray⟩) ∧ Below w.heap.size w w' := by
  have C1 := Lib.hid (valid_any 3 n .empty (by decide))
  have C2 := Lib.hid (rfmt02_any n h1 h2)
  have V0 := Vx.new w 3 n .empty 23
  rw [hk] at C1
  generalize foX n = l at *
  clear hk h1 h2
  go_enter Tryz.func10, Tryz.ntmps10
  go_wp2_with fail
  refine (C1.out _).mono ?_
  rintro e w1 ⟨rfl, b1⟩
  obtain ⟨c0, c1, c2⟩ := V0.keeps b1
  replace b1 := (balloc (b0 w) _).trans (b1.mono (by simp))
  go_wp2_with fail
  refine (C2.out _).mono ?_
  rintro e w2 ⟨rfl, b2⟩
  go_wp2_with fail
  go_ret
  exact ⟨rfl, bnext b1 b2⟩
theorem rfmt_text (s : ByteArray) (hs : s.size ≤ 1000) (w : World) (hk : ok ⟨4, 0, s⟩ = true) : Calls Tryz.prog 10 #[.agg #[.int .i64 4, .int .i64 0, .string s]] w fun e w' => e = .returned (.string ⟨(34 :: (s.data.toList ++ [34])).toArray⟩) ∧ Below w.heap.size w w' := by
  have C1 := Lib.hid (valid_any 4 0 s (by omega))
  have V0 := Vx.new w 4 0 s 23
  rw [hk] at C1
  clear hk
  have A := add_str [34] s.data.toList (by decide) (by rw [← Lib.size_eq]; omega)
  replace A : ∀ W, (Op.stringOp .add ⟨#[34]⟩ s).run Tryz.prog W = .ok (.string ⟨(34 :: s.data.toList).toArray⟩) W := A
  have B := add_str (34 :: s.data.toList) [34] (by rw [List.length_cons, ← Lib.size_eq]; omega) (by decide)
  replace B : ∀ W, (Op.stringOp .add ⟨(34 :: s.data.toList).toArray⟩ ⟨#[34]⟩).run Tryz.prog W = .ok (.string ⟨(34 :: (s.data.toList ++ [34])).toArray⟩) W := B
  generalize 34 :: (s.data.toList ++ [34]) = m at *
  generalize 34 :: s.data.toList = l at *
  go_enter Tryz.func10, Tryz.ntmps10
  go_wp2_with fail
  refine (C1.out _).mono ?_
  rintro e w1 ⟨rfl, b1⟩
  obtain ⟨c0, c1, c2⟩ := V0.keeps b1
  replace b1 := (balloc (b0 w) _).trans (b1.mono (by simp))
  go_wp2_with fail
  go_ret
  exact ⟨rfl, b1⟩
theorem rfmt_key (s : ByteArray) (hs : s.size ≤ 1000) (w : World) (hk : ok ⟨5, 0, s⟩ = true) : Calls Tryz.prog 10 #[.agg #[.int .i64 5, .int .i64 0, .string s]] w fun e w' => e = .returned (.string ⟨(64 :: s.data.toList).toArray⟩) ∧ Below w.heap.size w w' := by
  have C1 := Lib.hid (valid_any 5 0 s (by omega))
  have V0 := Vx.new w 5 0 s 23
  rw [hk] at C1
  clear hk
  have A := add_str [64] s.data.toList (by decide) (by rw [← Lib.size_eq]; omega)
  replace A : ∀ W, (Op.stringOp .add ⟨#[64]⟩ s).run Tryz.prog W = .ok (.string ⟨(64 :: s.data.toList).toArray⟩) W := A
  generalize 64 :: s.data.toList = l at *
  go_enter Tryz.func10, Tryz.ntmps10
  go_wp2_with fail
  refine (C1.out _).mono ?_
  rintro e w1 ⟨rfl, b1⟩
  obtain ⟨c0, c1, c2⟩ := V0.keeps b1
  replace b1 := (balloc (b0 w) _).trans (b1.mono (by simp))
  go_wp2_with fail
  go_ret
  exact ⟨rfl, b1⟩
theorem rformat_any (k n : Int) (s : ByteArray) (hs : s.size ≤ 1000) (w : World) : Calls Tryz.prog 10 #[.agg #[.int .i64 k, .int .i64 n, .string s]] w fun e w' => e = .returned (.string ⟨(fm ⟨k, n, s⟩).toArray⟩) ∧ Below w.heap.size w w' := by
  cases hk : ok ⟨k, n, s⟩
  · rw [fm_no hk]
    exact rfmt_no k n s hs w hk
  · rw [fm_ok hk]
    rcases ok_cases hk with e | e | e | ⟨m, e, h1, h2⟩ | ⟨m, e, h1, h2⟩ | ⟨t, e, h1, h2⟩ | ⟨t, e, h0, h1, h2⟩
    · cases e; exact rfmt_plain 0 0 _ (.inl ⟨rfl, rfl⟩) w hk
    · cases e; exact rfmt_plain 1 0 _ (.inr (.inr ⟨rfl, rfl, rfl⟩)) w hk
    · cases e; exact rfmt_plain 1 1 _ (.inr (.inl ⟨rfl, rfl, rfl⟩)) w hk
    · cases e; exact rfmt_num2 n h1 h2 w hk
    · cases e; exact rfmt_num3 n h1 h2 w hk
    · cases e; exact rfmt_text s hs w hk
    · cases e; exact rfmt_key s hs w hk
end Go.Proofs.YtnkdclodmeaihaaGreatDoor

/-
  Has; the reference's Check and Has: for every value; The reference's Format: for every value; The reference's texts of units, types, windows, literals; ranks; The reference's ranks and literals; The reference's flat, One and lists of words; The reference's SameExpr against True; The reference's texts of operations.
-/
import Derived.Test.YtbahfelnbofjjaaGreatDoorE01
import Derived.Test.YtbahfelnbofjjaaGreatDoorE02
import Derived.Test.YtbahfelnbofjjaaGreatDoorE03
import Derived.Test.YtbahfelnbofjjaaGreatDoorE06
import Derived.Test.YtbahfelnbofjjaaGreatDoorE08
import Derived.Test.YtbahfelnbofjjaaGreatDoorE09
import Derived.Test.YtbahfelnbofjjaaGreatDoorE13
import Derived.Test.YtbahfelnbofjjaaGreatDoorE15
namespace Go.Proofs.YtbahfelnbofjjaaGreatDoor
open Go.RowKit dec

theorem fields_any (k n : Int) (s : ByteArray) (w : World) : Calls Tryz.prog 274 #[.agg #[.int .i64 k, .int .i64 n, .string s]] w fun e w' => e = .returned (.bool (fmd ⟨k, n, s⟩)) ∧ Below w.heap.size w w' := by
  go_enter Tryz.func274, Tryz.ntmps274
  go_wp2
  all_goals go_ret
  all_goals refine ⟨congrArg (fun b => Ending.returned (Value.bool b)) ?_, balloc (b0 w) _⟩
  all_goals simp_all [fmd, emp]
  all_goals rfl
theorem printable_any (lo : Nat) (s : ByteArray) (hs : s.size ≤ 9223372036854775806) (w : World) : Calls Tryz.prog 303 #[.string s, .int .u8 (lo : Nat)] w fun e w' => e = .returned (.bool (pB lo s.data.toList)) ∧ w = w' := by
  go_enter Tryz.func303, Tryz.ntmps303
  go_wp2
  go_loopw [5] (fun x wr => ∃ i : Nat, x = .int .i64 (i : Nat) ∧ i ≤ s.size ∧ Hid (pB lo s.data.toList = pB lo (s.data.toList.drop i)) ∧ wr = w) (fun x _ => s.size - (intOf x).toNat)
  case atStart => exact ⟨0, rfl, by omega, rfl, rfl⟩
  case round =>
    obtain ⟨i, rfl, hi, hp, rfl⟩ := hrel
    go_wp2
    case roundEnd =>
      have h1 : i < s.size := by omega
      rename_i h2
      simp only [beq_eq_false_iff_ne] at h2
      refine ⟨⟨i + 1, rfl, by omega, ?_, trivial⟩, ?_⟩
      · exact Lib.hid (hp.out.trans ((pB_step lo s h1).2 ((okB_yes lo s[i]).2 (by omega))))
      · show s.size - ((i : Int) + 1).toNat < s.size - ((i : Nat) : Int).toNat
        omega
    all_goals go_ret
    all_goals refine ⟨congrArg (fun b => Ending.returned (Value.bool b)) (Eq.symm ?_), rfl⟩
    all_goals rw [hp.out]
    all_goals first
      | exact pB_end lo s (by omega)
      | exact (pB_step lo s (by omega)).1 ((okB_no lo _).2 (by omega))
      | (rename_i h2; simp only [beq_iff_eq] at h2; exact (pB_step lo s (by omega)).1 ((okB_no lo _).2 (by omega)))
theorem text_any (s : ByteArray) (hs : s.size ≤ 140737488355328) (w : World) : Calls Tryz.prog 276 #[.string s] w fun e w' => e = .returned (.bool (decide (s.size ≤ 64) && pB 32 s.data.toList)) ∧ w = w' := by
  have C1 := Lib.hid (fun w => printable_any 32 s (by omega) w)
  by_cases h : s.size ≤ 64
  · rw [decide_eq_true h]
    go_enter Tryz.func276, Tryz.ntmps276
    go_wp2_with fail
    refine (C1.out _).mono ?_
    rintro e w' ⟨rfl, rfl⟩
    go_wp2
    go_ret
    exact ⟨rfl, rfl⟩
  · rw [decide_eq_false h]
    clear C1
    go_enter Tryz.func276, Tryz.ntmps276
    go_wp2_with fail
    go_ret
    exact ⟨rfl, rfl⟩
theorem key_any (s : ByteArray) (hs : s.size ≤ 140737488355328) (w : World) : Calls Tryz.prog 277 #[.string s] w fun e w' => e = .returned (.bool (!decide (s.size = 0) && decide (s.size ≤ 32) && pB 33 s.data.toList)) ∧ w = w' := by
  have C1 := Lib.hid (fun w => printable_any 33 s (by omega) w)
  by_cases hz : s.size = 0
  · have hz2 := size_zero hz
    subst hz2
    clear C1
    go_enter Tryz.func277, Tryz.ntmps277
    go_wp2_with fail
    go_ret
    exact ⟨rfl, rfl⟩
  have he : s.toList.isEmpty = false := by rw [emp]; exact decide_eq_false hz
  rw [decide_eq_false hz]
  clear hz
  by_cases h : s.size ≤ 32
  · rw [decide_eq_true h]
    go_enter Tryz.func277, Tryz.ntmps277
    go_wp2_with fail
    refine (C1.out _).mono ?_
    rintro e w' ⟨rfl, rfl⟩
    go_wp2
    go_ret
    exact ⟨rfl, rfl⟩
  · rw [decide_eq_false h]
    clear C1
    go_enter Tryz.func277, Tryz.ntmps277
    go_wp2_with fail
    go_ret
    exact ⟨rfl, rfl⟩

/-- Check as the reference spells it. -/
theorem ck_ref (k n : Int) (s : ByteArray) : ck ⟨k, n, s⟩ = if fmd ⟨k, n, s⟩ then (if rg n = false ∨ (k = 4 ∧ ¬ s.size ≤ 64) ∨ (k = 5 ∧ ¬ s.size ≤ 32) then 2
    else if (k = 4 ∧ (decide (s.size ≤ 64) && pB 32 s.data.toList) = false) ∨ (k = 5 ∧ (!decide (s.size = 0) && decide (s.size ≤ 32) && pB 33 s.data.toList) = false) then 3 else 0) else 1 := by
  have r0 : rg 0 = true := by decide
  have r1 : rg 1 = true := by decide
  cases hf : fmd ⟨k, n, s⟩
  · unfold ck; rw [hf]; rfl
  unfold ck
  rw [hf]
  unfold fmd at hf
  simp only at hf
  unfold lmt spl
  simp only
  by_cases k0 : k = 0
  · subst k0
    simp at hf
    rw [hf.1]
    simp [r0]
  by_cases k1 : k = 1
  · subst k1
    simp at hf
    rcases hf.1 with e | e <;> (rw [e]; simp [r0, r1])
  by_cases k2 : k = 2 ∨ k = 3
  · have k4 : ¬ k = 4 := by omega
    have k5 : ¬ k = 5 := by omega
    simp [k2, k4, k5]
    cases rg n <;> simp
  by_cases k4 : k = 4
  · subst k4
    simp at hf
    rw [hf]
    by_cases h : s.size ≤ 64
    · simp [h, r0]
      cases pB 32 s.data.toList <;> simp
    · simp [h]
  by_cases k5 : k = 5
  · subst k5
    simp at hf
    rw [hf]
    by_cases h : s.size ≤ 32
    · simp [h, r0]
      by_cases hz : s = .empty
      · simp [hz]
      · simp [hz]
        cases pB 33 s.data.toList <;> simp
    · simp [h]
  · simp [k0, k1, k4, k5] at hf
    exact absurd hf.1 k2
theorem rcheck_any (k n : Int) (s : ByteArray) (hs : s.size ≤ 140737488355328) (w : World) : Calls Tryz.prog 238 #[.agg #[.int .i64 k, .int .i64 n, .string s]] w fun e w' => e = .returned (.int .i64 (ck ⟨k, n, s⟩)) ∧ Below w.heap.size w w' := by
  have C1 := Lib.hid (fields_any k n s)
  have C2 := Lib.hid (refInRange_any n)
  have C3 := Lib.hid (text_any s hs)
  have C4 := Lib.hid (key_any s hs)
  have V0 := Vx.new w k n s 23
  have E : Hid (ck ⟨k, n, s⟩ = _) := ck_ref k n s
  generalize fmd ⟨k, n, s⟩ = f at *
  generalize rg n = r at *
  go_enter Tryz.func238, Tryz.ntmps238
  go_wp2_with fail
  refine (C1.out _).mono ?_
  rintro e w1 ⟨rfl, b1⟩
  obtain ⟨c0, c1, c2⟩ := V0.keeps b1
  clear V0 C1
  replace b1 := (balloc (b0 w) _).trans (b1.mono (by simp))
  cases f
  · go_wp2_with fail
    go_ret
    exact ⟨by rw [E.out]; rfl, b1⟩
  go_wp2_with fail
  refine (C2.out _).mono ?_
  rintro e w2 ⟨rfl, rfl⟩
  cases r
  · go_wp2_with fail
    go_ret
    exact ⟨by rw [E.out]; simp, b1⟩
  clear C2
  by_cases k4 : k = 4
  · subst k4
    clear C4
    by_cases h : s.size ≤ 64
    · have C : Hid (∀ w, Calls Tryz.prog 276 #[.string s] w fun e w' => e = .returned (.bool (pB 32 s.data.toList)) ∧ w = w') := by
        have := C3.out
        rw [decide_eq_true h] at this
        exact this
      clear C3
      generalize pB 32 s.data.toList = p at *
      go_wp2_with fail
      refine (C.out _).mono ?_
      rintro e w3 ⟨rfl, rfl⟩
      cases p
      · go_wp2_with fail
        go_ret
        exact ⟨by rw [E.out]; simp [h], b1⟩
      · go_wp2_with fail
        go_ret
        exact ⟨by rw [E.out]; simp [h], b1⟩
    · clear C3
      go_wp2_with fail
      go_ret
      exact ⟨by rw [E.out]; simp [h], b1⟩
  clear C3
  by_cases k5 : k = 5
  · subst k5
    by_cases h : s.size ≤ 32
    · have C : Hid (∀ w, Calls Tryz.prog 277 #[.string s] w fun e w' => e = .returned (.bool (!decide (s.size = 0) && decide (s.size ≤ 32) && pB 33 s.data.toList)) ∧ w = w') := C4.out
      clear C4
      generalize (!decide (s.size = 0) && decide (s.size ≤ 32) && pB 33 s.data.toList) = p at *
      go_wp2_with fail
      refine (C.out _).mono ?_
      rintro e w3 ⟨rfl, rfl⟩
      cases p
      · go_wp2_with fail
        go_ret
        exact ⟨by rw [E.out]; simp [h], b1⟩
      · go_wp2_with fail
        go_ret
        exact ⟨by rw [E.out]; simp [h], b1⟩
    · clear C4
      go_wp2_with fail
      go_ret
      exact ⟨by rw [E.out]; simp [h], b1⟩
  clear C4
  go_wp2_with fail
  go_ret
  exact ⟨by rw [E.out]; simp [k4, k5], b1⟩
set_option maxRecDepth 100000 in
theorem valid_any (k n : Int) (s : ByteArray) (hs : s.size ≤ 140737488355328) (w : World) : Calls Tryz.prog 227 #[.agg #[.int .i64 k, .int .i64 n, .string s]] w fun e w' => e = .returned (.bool (ok ⟨k, n, s⟩)) ∧ Below w.heap.size w w' := by
  have C1 := Lib.hid (rcheck_any k n s hs)
  unfold ok
  generalize ck ⟨k, n, s⟩ = c at *
  have hc : (c == 0) = decide (c = 0) := rfl
  go_enter Tryz.func227, Tryz.ntmps227
  go_wp2_with fail
  refine (C1.out _).mono ?_
  rintro e w1 ⟨rfl, b1⟩
  replace b1 := (balloc (b0 w) _).trans (b1.mono (by simp))
  go_wp2_with fail
  go_ret
  exact ⟨rfl, b1⟩
end Go.Proofs.YtbahfelnbofjjaaGreatDoor
namespace Go.Proofs.YtbahfelnbofjjaaGreatDoor
open Go.RowKit dec

theorem rdig05_any (n : Int) (h1 : -1152921504606846976 ≤ n) (h2 : n ≤ 1152921504606846976) (w : World) : Calls Tryz.prog 59 #[.int .i64 n] w fun e w' => e = .returned (.string ⟨(Lib.itoa n).toArray⟩) ∧ Below w.heap.size w w' := by
  unfold Lib.itoa
  by_cases h : n < 0
  · obtain ⟨u, rfl⟩ : ∃ u : Nat, n = -(u : Int) := ⟨n.natAbs, by omega⟩
    rw [if_pos h, show (-(u : Int)).natAbs = u by omega]
    exact digits05_neg u (by omega) (by omega) w
  · obtain ⟨u, rfl⟩ : ∃ u : Nat, n = (u : Int) := ⟨n.toNat, by omega⟩
    rw [if_neg h, Int.toNat_natCast]
    exact digits05_pos u (by omega) w
theorem rfmt02_any (n : Int) (h1 : -1152921504606846976 ≤ n) (h2 : n ≤ 1152921504606846976) (w : World) : Calls Tryz.prog 228 #[.int .i64 n] w fun e w' => e = .returned (.string ⟨(foX n).toArray⟩) ∧ Below w.heap.size w w' := by
  rw [fo_eq]
  by_cases h : n < 0
  · obtain ⟨u, rfl⟩ : ∃ u : Nat, n = -(u : Int) := ⟨n.natAbs, by omega⟩
    rw [if_pos h, show (-(u : Int)).natAbs = u by omega, List.singleton_append]
    exact format02_neg u (by omega) (by omega) w
  · obtain ⟨u, rfl⟩ : ∃ u : Nat, n = (u : Int) := ⟨n.toNat, by omega⟩
    rw [if_neg h, show ((u : Int)).natAbs = u by omega, List.nil_append]
    exact format02_pos u (by omega) w
theorem rfmt_no (k n : Int) (s : ByteArray) (hs : s.size ≤ 1000) (w : World) (hk : ok ⟨k, n, s⟩ = false) : Calls Tryz.prog 160 #[.agg #[.int .i64 k, .int .i64 n, .string s]] w fun e w' => e = .returned (.string ⟨([] : List UInt8).toArray⟩) ∧ Below w.heap.size w w' := by
  have C1 := Lib.hid (valid_any k n s (by omega))
  rw [hk] at C1
  go_enter Tryz.func160, Tryz.ntmps160
  go_wp2_with fail
  refine (C1.out _).mono ?_
  rintro e w1 ⟨rfl, b1⟩
  replace b1 := (balloc (b0 w) _).trans (b1.mono (by simp))
  go_wp2_with fail
  go_ret
  exact ⟨rfl, b1⟩
theorem rfmt_plain (k n : Int) (l : List UInt8) (hl : (k = 0 ∧ l = [110, 117, 108, 108]) ∨ (k = 1 ∧ n = 1 ∧ l = [116, 114, 117, 101]) ∨ (k = 1 ∧ n = 0 ∧ l = [102, 97, 108, 115, 101])) (w : World) (hk : ok ⟨k, n, .empty⟩ = true) : Calls Tryz.prog 160 #[.agg #[.int .i64 k, .int .i64 n, .string .empty]] w fun e w' => e = .returned (.string ⟨l.toArray⟩) ∧ Below w.heap.size w w' := by
  have C1 := Lib.hid (valid_any k n .empty (by decide))
  have V0 := Vx.new w k n .empty 23
  rw [hk] at C1
  clear hk
  rcases hl with ⟨rfl, rfl⟩ | ⟨rfl, rfl, rfl⟩ | ⟨rfl, rfl, rfl⟩
  all_goals
    go_enter Tryz.func160, Tryz.ntmps160
    go_wp2_with fail
    refine (C1.out _).mono ?_
    rintro e w1 ⟨rfl, b1⟩
    obtain ⟨c0, c1, c2⟩ := V0.keeps b1
    replace b1 := (balloc (b0 w) _).trans (b1.mono (by simp))
    go_wp2_with fail
    go_ret
    exact ⟨rfl, b1⟩
theorem rfmt_num2 (n : Int) (h1 : -1152921504606846976 ≤ n) (h2 : n ≤ 1152921504606846976) (w : World) (hk : ok ⟨2, n, .empty⟩ = true) : Calls Tryz.prog 160 #[.agg #[.int .i64 2, .int .i64 n, .string .empty]] w fun e w' => e = .returned (.string ⟨(Lib.itoa n).toArray⟩) ∧ Below w.heap.size w w' := by
  have C1 := Lib.hid (valid_any 2 n .empty (by decide))
  have C2 := Lib.hid (rdig05_any n h1 h2)
  have V0 := Vx.new w 2 n .empty 23
  rw [hk] at C1
  generalize Lib.itoa n = l at *
  clear hk h1 h2
  go_enter Tryz.func160, Tryz.ntmps160
  go_wp2_with fail
  refine (C1.out _).mono ?_
  rintro e w1 ⟨rfl, b1⟩
  obtain ⟨c0, c1, c2⟩ := V0.keeps b1
  replace b1 := (balloc (b0 w) _).trans (b1.mono (by simp))
  go_wp2_with fail
  refine (C2.out _).mono ?_
  rintro e w2 ⟨rfl, b2⟩
  go_wp2_with fail
  go_ret
  exact ⟨rfl, bnext b1 b2⟩
theorem rfmt_num3 (n : Int) (h1 : -1152921504606846976 ≤ n) (h2 : n ≤ 1152921504606846976) (w : World) (hk : ok ⟨3, n, .empty⟩ = true) : Calls Tryz.prog 160 #[.agg #[.int .i64 3, .int .i64 n, .string .empty]] w fun e w' => e = .returned (.string ⟨(foX n).toArray⟩) ∧ Below w.heap.size w w' := by
  have C1 := Lib.hid (valid_any 3 n .empty (by decide))
  have C2 := Lib.hid (rfmt02_any n h1 h2)
  have V0 := Vx.new w 3 n .empty 23
  rw [hk] at C1
  generalize foX n = l at *
  clear hk h1 h2
  go_enter Tryz.func160, Tryz.ntmps160
  go_wp2_with fail
  refine (C1.out _).mono ?_
  rintro e w1 ⟨rfl, b1⟩
  obtain ⟨c0, c1, c2⟩ := V0.keeps b1
  replace b1 := (balloc (b0 w) _).trans (b1.mono (by simp))
  go_wp2_with fail
  refine (C2.out _).mono ?_
  rintro e w2 ⟨rfl, b2⟩
  go_wp2_with fail
  go_ret
  exact ⟨rfl, bnext b1 b2⟩
theorem rfmt_text (s : ByteArray) (hs : s.size ≤ 1000) (w : World) (hk : ok ⟨4, 0, s⟩ = true) : Calls Tryz.prog 160 #[.agg #[.int .i64 4, .int .i64 0, .string s]] w fun e w' => e = .returned (.string ⟨(34 :: (s.data.toList ++ [34])).toArray⟩) ∧ Below w.heap.size w w' := by
  have C1 := Lib.hid (valid_any 4 0 s (by omega))
  have V0 := Vx.new w 4 0 s 23
  rw [hk] at C1
  clear hk
  have A := add_str [34] s.data.toList (by decide) (by rw [← Lib.size_eq]; omega)
  replace A : ∀ W, (Op.stringOp .add ⟨#[34]⟩ s).run Tryz.prog W = .ok (.string ⟨(34 :: s.data.toList).toArray⟩) W := A
  have B := add_str (34 :: s.data.toList) [34] (by rw [List.length_cons, ← Lib.size_eq]; omega) (by decide)
  replace B : ∀ W, (Op.stringOp .add ⟨(34 :: s.data.toList).toArray⟩ ⟨#[34]⟩).run Tryz.prog W = .ok (.string ⟨(34 :: (s.data.toList ++ [34])).toArray⟩) W := B
  generalize 34 :: (s.data.toList ++ [34]) = m at *
  generalize 34 :: s.data.toList = l at *
  go_enter Tryz.func160, Tryz.ntmps160
  go_wp2_with fail
  refine (C1.out _).mono ?_
  rintro e w1 ⟨rfl, b1⟩
  obtain ⟨c0, c1, c2⟩ := V0.keeps b1
  replace b1 := (balloc (b0 w) _).trans (b1.mono (by simp))
  go_wp2_with fail
  go_ret
  exact ⟨rfl, b1⟩
theorem rfmt_key (s : ByteArray) (hs : s.size ≤ 1000) (w : World) (hk : ok ⟨5, 0, s⟩ = true) : Calls Tryz.prog 160 #[.agg #[.int .i64 5, .int .i64 0, .string s]] w fun e w' => e = .returned (.string ⟨(64 :: s.data.toList).toArray⟩) ∧ Below w.heap.size w w' := by
  have C1 := Lib.hid (valid_any 5 0 s (by omega))
  have V0 := Vx.new w 5 0 s 23
  rw [hk] at C1
  clear hk
  have A := add_str [64] s.data.toList (by decide) (by rw [← Lib.size_eq]; omega)
  replace A : ∀ W, (Op.stringOp .add ⟨#[64]⟩ s).run Tryz.prog W = .ok (.string ⟨(64 :: s.data.toList).toArray⟩) W := A
  generalize 64 :: s.data.toList = l at *
  go_enter Tryz.func160, Tryz.ntmps160
  go_wp2_with fail
  refine (C1.out _).mono ?_
  rintro e w1 ⟨rfl, b1⟩
  obtain ⟨c0, c1, c2⟩ := V0.keeps b1
  replace b1 := (balloc (b0 w) _).trans (b1.mono (by simp))
  go_wp2_with fail
  go_ret
  exact ⟨rfl, b1⟩
theorem rformat_any (k n : Int) (s : ByteArray) (hs : s.size ≤ 1000) (w : World) : Calls Tryz.prog 160 #[.agg #[.int .i64 k, .int .i64 n, .string s]] w fun e w' => e = .returned (.string ⟨(fm ⟨k, n, s⟩).toArray⟩) ∧ Below w.heap.size w w' := by
  cases hk : ok ⟨k, n, s⟩
  · rw [fm_no hk]
    exact rfmt_no k n s hs w hk
  · rw [fm_ok hk]
    rcases ok_cases hk with e | e | e | ⟨m, e, h1, h2⟩ | ⟨m, e, h1, h2⟩ | ⟨t, e, h1, h2⟩ | ⟨t, e, h0, h1, h2⟩
    · cases e; exact rfmt_plain 0 0 _ (.inl ⟨rfl, rfl⟩) w hk
    · cases e; exact rfmt_plain 1 0 _ (.inr (.inr ⟨rfl, rfl, rfl⟩)) w hk
    · cases e; exact rfmt_plain 1 1 _ (.inr (.inl ⟨rfl, rfl, rfl⟩)) w hk
    · cases e; exact rfmt_num2 n h1 h2 w hk
    · cases e; exact rfmt_num3 n h1 h2 w hk
    · cases e; exact rfmt_text s hs w hk
    · cases e; exact rfmt_key s hs w hk
end Go.Proofs.YtbahfelnbofjjaaGreatDoor
namespace Go.Proofs.YtbahfelnbofjjaaGreatDoor.ch
open Go.RowKit dec

theorem ok_take {u : List un.Fa} (h : un.Ok u) (j : Nat) : un.Ok (u.take j) :=
  ⟨by rw [List.length_take]; have := h.le; omega, fun x hx => h.good x (List.mem_of_mem_take hx), List.Pairwise.sublist (List.take_sublist j u) h.srt⟩
set_option maxRecDepth 100000 in
set_option maxHeartbeats 4000000 in
theorem runit_any (u : List un.Fa) (hu : Un u) (a : Option Addr) (n cap : Nat) (w : World) (hS : un.Sl w a n cap u) : Calls Tryz.prog 114 #[.slice a n cap] w (Sr (B8 (uT u)) w) := by
  obtain ⟨f1, f2, f3, f4⟩ := un_few hu
  have hn := hS.hn
  by_cases h : n = 0
  · have hu0 : u = [] := List.eq_nil_of_length_eq_zero (by omega)
    have hR := Lib.hid (show B8 (uT u) = .empty by rw [hu0]; rfl)
    have q := in_is (show (n : Int) = 0 by omega)
    clear hu f1 f2 f3 f4 hn hS hu0
    replace h := Lib.hid h
    go_enter Tryz.func114, Tryz.ntmps114
    go_wp2_with fail
    go_ret
    exact sr_of hR.out.symm (b0 w)
  · have q := in_ne (show (n : Int) ≠ 0 by omega)
    have hne : u ≠ [] := fun e => h (by rw [e] at hn; exact hn.symm)
    have C := Lib.hid (show Calls Tryz.prog 164 #[.slice a n cap] w (Sr (B8 (un.fT u)) w) from (un.rformat_any a n cap u w hS f1 (fun j => by have := un.fT_len (ok_take hu.o j); omega)).mono fun _ _ h => h)
    have A1 := add_b8 [32, 91] (un.fT u) (by decide) (by omega)
    have A2 := add_b8 (32 :: 91 :: un.fT u) [93] (by simp; omega) (by decide)
    have hR := Lib.hid (show B8 (uT u) = B8 (32 :: 91 :: un.fT u ++ [93]) by unfold uT; rw [if_neg hne]; rfl)
    replace A1 : ∀ W, (Op.stringOp .add ⟨#[32, 91]⟩ (B8 (un.fT u))).run Tryz.prog W = .ok (.string (B8 (32 :: 91 :: un.fT u))) W := A1
    replace A2 : ∀ W, (Op.stringOp .add (B8 (32 :: 91 :: un.fT u)) ⟨#[93]⟩).run Tryz.prog W = .ok (.string (B8 (32 :: 91 :: un.fT u ++ [93]))) W := A2
    clear hu f1 f2 f3 f4 hn hS hne
    replace h := Lib.hid h
    rw [hR.out]
    clear hR
    generalize B8 (un.fT u) = s1 at *
    generalize B8 (32 :: 91 :: un.fT u) = s2 at *
    generalize B8 (32 :: 91 :: un.fT u ++ [93]) = s3 at *
    go_enter Tryz.func114, Tryz.ntmps114
    go_wp2_with fail
    refine C.out.mono ?_
    rintro e w1 ⟨rfl, b1⟩
    have B1 := Lib.hid b1
    clear b1 C
    go_wp2_with fail
    go_ret
    exact sr_of rfl B1.out
set_option maxRecDepth 100000 in
set_option maxHeartbeats 4000000 in
theorem rtypeText_any (t : Ty) (ua : Option Addr) (uc : Nat) (w : World) (ht : tyE t = 0) (hU : un.Sl w ua t.un.length uc t.un) : Calls Tryz.prog 54 #[.agg (tyC t ua uc)] w (Sr (B8 (tyT t)) w) := by
  rcases tyE_cases ht with (rfl | rfl) | ⟨s, rfl, hs⟩ | ⟨u, rfl | rfl, hu⟩
  · clear hU ht
    have BB := Lib.hid (balloc (b0 w) (.cells #[.int .i64 1, .slice ua 0 uc, .string .empty] 31))
    unfold tyC
    go_enter Tryz.func54, Tryz.ntmps54
    go_wp2_with fail
    go_ret
    exact sr_of rfl BB.out
  · clear hU ht
    have BB := Lib.hid (balloc (b0 w) (.cells #[.int .i64 4, .slice ua 0 uc, .string .empty] 31))
    unfold tyC
    go_enter Tryz.func54, Tryz.ntmps54
    go_wp2_with fail
    go_ret
    exact sr_of rfl BB.out
  · have hl := name_len hs
    have BB := Lib.hid (balloc (b0 w) (.cells #[.int .i64 5, .slice ua 0 uc, .string s] 31))
    have A1 := add_b8 [107, 101, 121, 32] s.data.toList (by decide) (by omega)
    replace A1 : ∀ W, (Op.stringOp .add ⟨#[107, 101, 121, 32]⟩ s).run Tryz.prog W = .ok (.string (B8 ([107, 101, 121, 32] ++ s.data.toList))) W := A1
    have hR := Lib.hid (show B8 (tyT ⟨5, [], s⟩) = B8 ([107, 101, 121, 32] ++ s.data.toList) from rfl)
    rw [hR.out]
    clear hU ht hs hl hR
    generalize B8 ([107, 101, 121, 32] ++ s.data.toList) = s3 at *
    unfold tyC
    go_enter Tryz.func54, Tryz.ntmps54
    go_wp2_with fail
    go_ret
    exact sr_of rfl BB.out
  · have hl := (un_few hu).2.2.2
    have bb := balloc (b0 w) (.cells #[.int .i64 2, .slice ua u.length uc, .string .empty] 31)
    have BB := Lib.hid bb
    have C := Lib.hid (runit_any u hu ua u.length uc _ (hU.keeps bb))
    have hul : (uT u).length ≤ 203 := uT_len hu
    have A1 := add_b8 [105, 110, 116] (uT u) (by decide) (by omega)
    replace A1 : ∀ W, (Op.stringOp .add ⟨#[105, 110, 116]⟩ (B8 (uT u))).run Tryz.prog W = .ok (.string (B8 ([105, 110, 116] ++ uT u))) W := A1
    have hR := Lib.hid (show B8 (tyT ⟨2, u, .empty⟩) = B8 ([105, 110, 116] ++ uT u) from rfl)
    rw [hR.out]
    clear hU ht hu hl hR bb hul
    generalize B8 ([105, 110, 116] ++ uT u) = s3 at *
    generalize B8 (uT u) = s2 at *
    unfold tyC
    go_enter Tryz.func54, Tryz.ntmps54
    go_wp2_with fail
    refine C.out.mono ?_
    rintro e w1 ⟨rfl, b1⟩
    have B1 := Lib.hid (bnext BB.out b1)
    clear b1 C
    go_wp2_with fail
    go_ret
    exact sr_of rfl B1.out
  · have hl := (un_few hu).2.2.2
    have bb := balloc (b0 w) (.cells #[.int .i64 3, .slice ua u.length uc, .string .empty] 31)
    have BB := Lib.hid bb
    have C := Lib.hid (runit_any u hu ua u.length uc _ (hU.keeps bb))
    have hul : (uT u).length ≤ 203 := uT_len hu
    have A1 := add_b8 [100, 101, 99] (uT u) (by decide) (by omega)
    replace A1 : ∀ W, (Op.stringOp .add ⟨#[100, 101, 99]⟩ (B8 (uT u))).run Tryz.prog W = .ok (.string (B8 ([100, 101, 99] ++ uT u))) W := A1
    have hR := Lib.hid (show B8 (tyT ⟨3, u, .empty⟩) = B8 ([100, 101, 99] ++ uT u) from rfl)
    rw [hR.out]
    clear hU ht hu hl hR bb hul
    generalize B8 ([100, 101, 99] ++ uT u) = s3 at *
    generalize B8 (uT u) = s2 at *
    unfold tyC
    go_enter Tryz.func54, Tryz.ntmps54
    go_wp2_with fail
    refine C.out.mono ?_
    rintro e w1 ⟨rfl, b1⟩
    have B1 := Lib.hid (bnext BB.out b1)
    clear b1 C
    go_wp2_with fail
    go_ret
    exact sr_of rfl B1.out
set_option maxRecDepth 100000 in
set_option maxHeartbeats 4000000 in
theorem rwindow_any (k n : Int) (hw : winH k n = true) (w : World) : Calls Tryz.prog 161 #[.agg #[.int .i64 k, .int .i64 n]] w (Sr (B8 (wiT k n)) w) := by
  have bb := balloc (b0 w) (.cells #[.int .i64 k, .int .i64 n] 26)
  have BB := Lib.hid bb
  clear bb
  rcases winH_cases hw with ⟨rfl, rfl⟩ | ⟨hk, h2, h3⟩
  · clear hw
    go_enter Tryz.func161, Tryz.ntmps161
    go_wp2_with fail
    go_ret
    exact sr_of rfl BB.out
  · have hl := itoa_le n (by omega) (by omega)
    have CD := Lib.hid (fun (W : World) => (show Calls Tryz.prog 59 #[.int .i64 n] W (Sr (B8 (Lib.itoa n)) W) from (rdig05_any n (by omega) (by omega) W).mono fun _ _ h => h))
    rcases hk with rfl | rfl | rfl
    · have A1 := add_b8 [115, 108, 105, 100, 105, 110, 103, 32] (Lib.itoa n) (by decide) (by omega)
      replace A1 : ∀ W, (Op.stringOp .add ⟨#[115, 108, 105, 100, 105, 110, 103, 32]⟩ (B8 (Lib.itoa n))).run Tryz.prog W = .ok (.string (B8 ([115, 108, 105, 100, 105, 110, 103, 32] ++ Lib.itoa n))) W := A1
      have hR := Lib.hid (show B8 (wiT 2 n) = B8 ([115, 108, 105, 100, 105, 110, 103, 32] ++ Lib.itoa n) from rfl)
      rw [hR.out]
      clear hw hl hR h2 h3
      generalize B8 ([115, 108, 105, 100, 105, 110, 103, 32] ++ Lib.itoa n) = s3 at *
      generalize B8 (Lib.itoa n) = s2 at *
      go_enter Tryz.func161, Tryz.ntmps161
      go_wp2_with fail
      refine (CD.out _).mono ?_
      rintro e w1 ⟨rfl, b1⟩
      have B1 := Lib.hid (bnext BB.out b1)
      clear b1 CD
      go_wp2_with fail
      go_ret
      exact sr_of rfl B1.out
    · have A1 := add_b8 [116, 117, 109, 98, 108, 105, 110, 103, 32] (Lib.itoa n) (by decide) (by omega)
      replace A1 : ∀ W, (Op.stringOp .add ⟨#[116, 117, 109, 98, 108, 105, 110, 103, 32]⟩ (B8 (Lib.itoa n))).run Tryz.prog W = .ok (.string (B8 ([116, 117, 109, 98, 108, 105, 110, 103, 32] ++ Lib.itoa n))) W := A1
      have hR := Lib.hid (show B8 (wiT 3 n) = B8 ([116, 117, 109, 98, 108, 105, 110, 103, 32] ++ Lib.itoa n) from rfl)
      rw [hR.out]
      clear hw hl hR h2 h3
      generalize B8 ([116, 117, 109, 98, 108, 105, 110, 103, 32] ++ Lib.itoa n) = s3 at *
      generalize B8 (Lib.itoa n) = s2 at *
      go_enter Tryz.func161, Tryz.ntmps161
      go_wp2_with fail
      refine (CD.out _).mono ?_
      rintro e w1 ⟨rfl, b1⟩
      have B1 := Lib.hid (bnext BB.out b1)
      clear b1 CD
      go_wp2_with fail
      go_ret
      exact sr_of rfl B1.out
    · have A1 := add_b8 [115, 101, 115, 115, 105, 111, 110, 32] (Lib.itoa n) (by decide) (by omega)
      replace A1 : ∀ W, (Op.stringOp .add ⟨#[115, 101, 115, 115, 105, 111, 110, 32]⟩ (B8 (Lib.itoa n))).run Tryz.prog W = .ok (.string (B8 ([115, 101, 115, 115, 105, 111, 110, 32] ++ Lib.itoa n))) W := A1
      have hR := Lib.hid (show B8 (wiT 4 n) = B8 ([115, 101, 115, 115, 105, 111, 110, 32] ++ Lib.itoa n) from rfl)
      rw [hR.out]
      clear hw hl hR h2 h3
      generalize B8 ([115, 101, 115, 115, 105, 111, 110, 32] ++ Lib.itoa n) = s3 at *
      generalize B8 (Lib.itoa n) = s2 at *
      go_enter Tryz.func161, Tryz.ntmps161
      go_wp2_with fail
      refine (CD.out _).mono ?_
      rintro e w1 ⟨rfl, b1⟩
      have B1 := Lib.hid (bnext BB.out b1)
      clear b1 CD
      go_wp2_with fail
      go_ret
      exact sr_of rfl B1.out
set_option maxRecDepth 100000 in
set_option maxHeartbeats 4000000 in
theorem roper_una (op : ByteArray) (ho : op = ⟨#[45]⟩ ∨ op = ⟨#[110, 111, 116]⟩ ∨ op = ⟨#[110, 117, 108, 108]⟩) (w : World) : Calls Tryz.prog 229 #[.int .i64 6, .string op] w fun e w' => e = .returned (.int .i64 (if op = ⟨#[110, 111, 116]⟩ then 4 else if op = ⟨#[45]⟩ then 8 else 9)) ∧ w' = w := by
  rcases ho with rfl | rfl | rfl
  all_goals
    go_enter Tryz.func229, Tryz.ntmps229
    go_wp2_with fail
    go_ret
    exact ⟨rfl, rfl⟩
set_option maxRecDepth 100000 in
set_option maxHeartbeats 4000000 in
theorem roper_bin (op : ByteArray) (ho : op = ⟨#[43]⟩ ∨ op = ⟨#[45]⟩ ∨ op = ⟨#[42]⟩ ∨ op = ⟨#[47]⟩ ∨ op = ⟨#[61, 61]⟩ ∨ op = ⟨#[33, 61]⟩ ∨ op = ⟨#[60]⟩ ∨ op = ⟨#[60, 61]⟩ ∨ op = ⟨#[97, 110, 100]⟩ ∨ op = ⟨#[111, 114]⟩) (w : World) : Calls Tryz.prog 229 #[.int .i64 7, .string op] w fun e w' => e = .returned (.int .i64 (rkO op)) ∧ w' = w := by
  rcases ho with rfl | rfl | rfl | rfl | rfl | rfl | rfl | rfl | rfl | rfl
  all_goals
    go_enter Tryz.func229, Tryz.ntmps229
    go_wp2_with fail
    go_ret
    exact ⟨rfl, rfl⟩
end Go.Proofs.YtbahfelnbofjjaaGreatDoor.ch
namespace Go.Proofs.YtbahfelnbofjjaaGreatDoor.ch
open Go.RowKit dec

theorem nod_oper {i : Bool} {g h : Hd} {n : Nat} (N : Nod i g h n) : (h.k = 6 ∨ h.k = 7) → ∀ W, Calls Tryz.prog 229 #[.int .i64 h.k, .string h.op] W fun e w' => e = .returned (.int .i64 (rk h)) ∧ w' = W := by
  intro hk W
  cases N with
  | una op ho => exact roper_una op ho W
  | bin op ho => exact roper_bin op ho W
  | boo n e => exact absurd hk (by show ¬ ((1 : Int) = 6 ∨ (1 : Int) = 7); decide)
  | num k n u hk' h0 h1 hu => exact absurd hk (by show ¬ ((1 : Int) = 6 ∨ (1 : Int) = 7); decide)
  | tex s h1 h2 => exact absurd hk (by show ¬ ((1 : Int) = 6 ∨ (1 : Int) = 7); decide)
  | key m s hm h0 h1 h2 => exact absurd hk (by show ¬ ((1 : Int) = 6 ∨ (1 : Int) = 7); decide)
  | fie m hi hm => exact absurd hk (by show ¬ ((2 : Int) = 6 ∨ (2 : Int) = 7); decide)
  | fea m hi hm => exact absurd hk (by show ¬ ((3 : Int) = 6 ∨ (3 : Int) = 7); decide)
  | loo m hi hm => exact absurd hk (by show ¬ ((4 : Int) = 6 ∨ (4 : Int) = 7); decide)
  | agg op t p wk ws hi ht hp hw hc => exact absurd hk (by show ¬ ((5 : Int) = 6 ∨ (5 : Int) = 7); decide)
  | iff => exact absurd hk (by show ¬ ((8 : Int) = 6 ∨ (8 : Int) = 7); decide)
  | dfl => exact absurd hk (by show ¬ ((9 : Int) = 6 ∨ (9 : Int) = 7); decide)
set_option maxRecDepth 100000 in
set_option maxHeartbeats 8000000 in
theorem rrank_any (h : Hd) (n : Nat) (ua aa : Option Addr) (uc ac : Nat) (w : World) (hO : (h.k = 6 ∨ h.k = 7) → ∀ W, Calls Tryz.prog 229 #[.int .i64 h.k, .string h.op] W fun e w' => e = .returned (.int .i64 (rk h)) ∧ w' = W) : Calls Tryz.prog 162 #[.agg (exC h n ua uc aa ac)] w (Num (rk h) w) := by
  have bb := balloc (b0 w) (.cells (exC h n ua uc aa ac) 29)
  have B0 := Lib.hid bb
  have G := Lib.hid (Blk.new w 29 (exC h n ua uc aa ac))
  clear bb
  have HO := Lib.hid hO
  clear hO
  unfold exC at *
  go_enter Tryz.func162, Tryz.ntmps162
  go_upto_region 1 with fail
  generalize hw0 : (w.alloc (.cells #[.int .i64 h.k, .string h.op, .string h.nm, .string h.tb, .int .i64 h.vk, .int .i64 h.vn, .string h.vs, .slice ua h.un.length uc, .int .i64 h.pa, .int .i64 h.wk, .int .i64 h.ws, .slice aa n ac] 29)) = w0 at *
  generalize hg2 : w.heap.size = g2 at G ⊢
  clear hw0 hg2
  have c0 := G.out.cell 0
  have c1 := G.out.cell 1
  simp only [List.getElem?_toArray, List.getElem?_cons_zero, List.getElem?_cons_succ] at c0 c1
  by_cases h8 : h.k = 8
  · have hR := Lib.hid (show rk h = 0 by unfold rk; simp [h8])
    have q8 := in_is h8
    replace h8 := Lib.hid h8
    go_wp2_with fail
    go_ret
    exact ⟨congrArg (fun v => Ending.returned (Value.int .i64 v)) hR.out.symm, B0.out⟩
  · have q8 := in_ne h8
    by_cases h9 : h.k = 9
    · have hR := Lib.hid (show rk h = 1 by unfold rk; simp [h9])
      have q9 := in_is h9
      replace h9 := Lib.hid h9
      go_wp2_with fail
      go_ret
      exact ⟨congrArg (fun v => Ending.returned (Value.int .i64 v)) hR.out.symm, B0.out⟩
    · have q9 := in_ne h9
      by_cases h6 : h.k = 6
      · replace HO := Lib.hid (HO.out (by omega))
        have q6 := in_is h6
        replace h6 := Lib.hid h6
        replace h8 := Lib.hid h8
        replace h9 := Lib.hid h9
        go_wp2_with fail
        refine (HO.out _).mono ?_
        rintro e w1 ⟨rfl, rfl⟩
        go_wp2_with fail
        go_ret
        exact ⟨rfl, B0.out⟩
      · have q6 := in_ne h6
        by_cases h7 : h.k = 7
        · replace HO := Lib.hid (HO.out (by omega))
          have q7 := in_is h7
          replace h7 := Lib.hid h7
          replace h8 := Lib.hid h8
          replace h9 := Lib.hid h9
          go_wp2_with fail
          refine (HO.out _).mono ?_
          rintro e w1 ⟨rfl, rfl⟩
          go_wp2_with fail
          go_ret
          exact ⟨rfl, B0.out⟩
        · have q7 := in_ne h7
          have hR := Lib.hid (show rk h = 9 by unfold rk; simp [h6, h7, h8, h9])
          go_wp2_with fail
          go_ret
          exact ⟨congrArg (fun v => Ending.returned (Value.int .i64 v)) hR.out.symm, B0.out⟩
set_option maxRecDepth 100000 in
set_option maxHeartbeats 8000000 in
theorem rkey_any (h : Hd) (n : Nat) (ua aa : Option Addr) (uc ac : Nat) (w : World) (hk : h.vk = 5) (h1 : h.nm.data.toList.length ≤ 1000) (h2 : h.vs.data.toList.length ≤ 1000) : Calls Tryz.prog 108 #[.agg (exC h n ua uc aa ac)] w (Sr (B8 (liT h)) w) := by
  have bb := balloc (b0 w) (.cells (exC h n ua uc aa ac) 29)
  have B0 := Lib.hid bb
  have G := Lib.hid (Blk.new w 29 (exC h n ua uc aa ac))
  clear bb
  have hR := Lib.hid (show B8 (liT h) = B8 ((((64 :: h.nm.data.toList) ++ [32, 34]) ++ h.vs.data.toList) ++ [34]) by unfold liT; rw [if_pos hk]; simp)
  have A1 := add_b8 [64] h.nm.data.toList (by decide) (by omega)
  have A2 := add_b8 (64 :: h.nm.data.toList) [32, 34] (by simp only [List.length_cons]; omega) (by decide)
  have A3 := add_b8 ((64 :: h.nm.data.toList) ++ [32, 34]) h.vs.data.toList (by simp only [List.length_cons, List.length_append, List.length_nil]; omega) (by omega)
  have A4 := add_b8 (((64 :: h.nm.data.toList) ++ [32, 34]) ++ h.vs.data.toList) [34] (by simp only [List.length_cons, List.length_append, List.length_nil]; omega) (by decide)
  replace A1 : ∀ W, (Op.stringOp .add ⟨#[64]⟩ h.nm).run Tryz.prog W = .ok (.string (B8 (64 :: h.nm.data.toList))) W := A1
  replace A2 : ∀ W, (Op.stringOp .add (B8 (64 :: h.nm.data.toList)) ⟨#[32, 34]⟩).run Tryz.prog W = .ok (.string (B8 ((64 :: h.nm.data.toList) ++ [32, 34]))) W := A2
  replace A3 : ∀ W, (Op.stringOp .add (B8 ((64 :: h.nm.data.toList) ++ [32, 34])) h.vs).run Tryz.prog W = .ok (.string (B8 (((64 :: h.nm.data.toList) ++ [32, 34]) ++ h.vs.data.toList))) W := A3
  replace A4 : ∀ W, (Op.stringOp .add (B8 (((64 :: h.nm.data.toList) ++ [32, 34]) ++ h.vs.data.toList)) ⟨#[34]⟩).run Tryz.prog W = .ok (.string (B8 ((((64 :: h.nm.data.toList) ++ [32, 34]) ++ h.vs.data.toList) ++ [34]))) W := A4
  rw [hR.out]
  clear hR h1 h2
  generalize B8 ((((64 :: h.nm.data.toList) ++ [32, 34]) ++ h.vs.data.toList) ++ [34]) = s5 at *
  generalize B8 (((64 :: h.nm.data.toList) ++ [32, 34]) ++ h.vs.data.toList) = s4 at *
  generalize B8 ((64 :: h.nm.data.toList) ++ [32, 34]) = s3 at *
  generalize B8 (64 :: h.nm.data.toList) = s2 at *
  have q5 := in_is hk
  replace hk := Lib.hid hk
  unfold exC at *
  go_enter Tryz.func108, Tryz.ntmps108
  go_upto_region 1 with fail
  generalize hw0 : (w.alloc (.cells #[.int .i64 h.k, .string h.op, .string h.nm, .string h.tb, .int .i64 h.vk, .int .i64 h.vn, .string h.vs, .slice ua h.un.length uc, .int .i64 h.pa, .int .i64 h.wk, .int .i64 h.ws, .slice aa n ac] 29)) = w0 at *
  generalize hg2 : w.heap.size = g2 at G ⊢
  clear hw0 hg2
  have c2 := G.out.cell 2
  have c4 := G.out.cell 4
  have c6 := G.out.cell 6
  simp only [List.getElem?_toArray, List.getElem?_cons_zero, List.getElem?_cons_succ] at c2 c4 c6
  go_wp2_with fail
  go_ret
  exact sr_of rfl B0.out
set_option maxRecDepth 100000 in
set_option maxHeartbeats 8000000 in
theorem rlit_any (h : Hd) (n : Nat) (ua aa : Option Addr) (uc ac : Nat) (w : World) (hk : h.vk ≠ 5) (hu : Un h.un) (h1 : h.vs.size ≤ 1000) (h2 : (fm ⟨h.vk, h.vn, h.vs⟩).length ≤ 1000) (hU : un.Sl w ua h.un.length uc h.un) : Calls Tryz.prog 108 #[.agg (exC h n ua uc aa ac)] w (Sr (B8 (liT h)) w) := by
  have bb := balloc (b0 w) (.cells (exC h n ua uc aa ac) 29)
  have B0 := Lib.hid bb
  have G := Lib.hid (Blk.new w 29 (exC h n ua uc aa ac))
  have HU := Lib.hid (hU.keeps bb)
  clear bb
  have hR := Lib.hid (show B8 (liT h) = B8 (fm ⟨h.vk, h.vn, h.vs⟩ ++ uT h.un) by unfold liT; rw [if_neg hk])
  have hul := uT_len hu
  have CF := Lib.hid (fun (W : World) => (show Calls Tryz.prog 160 #[.agg #[.int .i64 h.vk, .int .i64 h.vn, .string h.vs]] W (Sr (B8 (fm ⟨h.vk, h.vn, h.vs⟩)) W) from (rformat_any h.vk h.vn h.vs h1 W).mono fun _ _ h => h))
  have CU := Lib.hid (fun (W : World) (S : un.Sl W ua h.un.length uc h.un) => runit_any h.un hu ua h.un.length uc W S)
  have A1 := add_b8 (fm ⟨h.vk, h.vn, h.vs⟩) (uT h.un) (by omega) (by omega)
  rw [hR.out]
  clear hR h1 h2 hul hU
  generalize B8 (fm ⟨h.vk, h.vn, h.vs⟩ ++ uT h.un) = s3 at *
  generalize B8 (fm ⟨h.vk, h.vn, h.vs⟩) = s1 at *
  generalize B8 (uT h.un) = s2 at *
  have q5 := in_ne hk
  replace hk := Lib.hid hk
  unfold exC at *
  go_enter Tryz.func108, Tryz.ntmps108
  go_upto_region 1 with fail
  generalize hw0 : (w.alloc (.cells #[.int .i64 h.k, .string h.op, .string h.nm, .string h.tb, .int .i64 h.vk, .int .i64 h.vn, .string h.vs, .slice ua h.un.length uc, .int .i64 h.pa, .int .i64 h.wk, .int .i64 h.ws, .slice aa n ac] 29)) = w0 at *
  generalize hg2 : w.heap.size = g2 at G ⊢
  clear hw0 hg2
  have c4 := G.out.cell 4
  simp only [List.getElem?_toArray, List.getElem?_cons_zero, List.getElem?_cons_succ] at c4
  have R4 := Lib.hid (blk_range G.out 4 [.int .i64 h.vk, .int .i64 h.vn, .string h.vs] rfl)
  go_upto_region 3 with fail
  clear c4
  refine wp_region_held_drew (S := fun w' => Below w0.heap.size w0 w') (by kernel_rfl) (b0 w0).drew (fun hH => ?_)
  refine held_take (i := 0) (d := 16) (v := ?_) rfl (by kernel_rfl) (by kernel_rfl) (by kernel_rfl) rfl (fun _ _ _ h => h) rfl hH (fun w' hS => ?_) ?_
  rotate_left
  · go_simp; first | done | with_reducible rfl
  simp only [List.set_cons_zero, List.set_cons_succ]
  refine held_take (i := 1) (d := 17) (v := .agg #[.int .i64 h.vk, .int .i64 h.vn, .string h.vs]) rfl (by kernel_rfl) (by kernel_rfl) (by kernel_rfl) rfl (fun _ _ _ h => h) rfl hH (fun w' hS => yield_loadM infVa Tryz.underlying23 rfl (.tmp 16) rfl g2 4 #[.int .i64 h.vk, .int .i64 h.vn, .string h.vs] rfl (range_keeps R4.out hS) rfl) ?_
  simp only [List.set_cons_zero, List.set_cons_succ]
  refine held_take (i := 3) (d := 19) (v := ?_) rfl (by kernel_rfl) (by kernel_rfl) (by kernel_rfl) rfl (fun _ _ _ h => h) rfl hH (fun w' hS => ?_) ?_
  rotate_left
  · go_simp; first | done | with_reducible rfl
  simp only [List.set_cons_zero, List.set_cons_succ]
  refine held_take (i := 4) (d := 20) (v := ?_) rfl (by kernel_rfl) (by kernel_rfl) (by kernel_rfl) rfl (fun _ _ _ h => h) rfl hH (fun w' hS => ?_) ?_
  rotate_left
  · have m7 := (G.out.keeps hS).cell 7; simp only [List.getElem?_toArray, List.getElem?_cons_zero, List.getElem?_cons_succ] at m7; go_simp; first | done | with_reducible rfl
  simp only [List.set_cons_zero, List.set_cons_succ]
  generalize w0.drew = yy at *
  refine held_only (i := 2) rfl (by kernel_rfl) rfl (fun K hK => ?_)
  go_simp
  refine (CF.out _).mono ?_
  rintro e y31 ⟨rfl, b31⟩
  skip
  refine hK.out _ _ (bnext hH b31) (fun hH => ?_)
  clear hK K
  clear b31
  refine held_only (i := 5) rfl (by kernel_rfl) rfl (fun K hK => ?_)
  go_simp
  refine (CU.out _ (HU.out.keeps hH)).mono ?_
  rintro e y32 ⟨rfl, b32⟩
  skip
  refine hK.out _ _ (bnext hH b32) (fun hH => ?_)
  clear hK K
  clear b32
  refine held_take (i := 6) (d := 22) (v := ?_) rfl (by kernel_rfl) (by kernel_rfl) (by kernel_rfl) rfl (fun _ _ _ h => h) rfl hH (fun w' hS => ?_) ?_
  rotate_left
  · have A := A1 w'; go_simp; first | done | (simp only [A]; done) | with_reducible rfl | exact A
  simp only [List.set_cons_zero, List.set_cons_succ]
  refine held_take (i := 7) (d := 2) (v := ?_) rfl (by kernel_rfl) (by kernel_rfl) (by kernel_rfl) rfl (fun _ _ _ h => h) rfl hH (fun w' hS => ?_) ?_
  rotate_left
  · go_simp; first | done | with_reducible rfl
  simp only [List.set_cons_zero, List.set_cons_succ]
  refine wpAnyH_done (by kernel_rfl) ?_ _
  go_wp2_with fail
  go_ret
  exact sr_of rfl (bnext B0.out hH)
end Go.Proofs.YtbahfelnbofjjaaGreatDoor.ch
namespace Go.Proofs.YtbahfelnbofjjaaGreatDoor.ch
open Go.RowKit dec

def flR (h g : Hd) : Bool := decide (h.k = g.k) && same h g
set_option maxRecDepth 100000 in
set_option maxHeartbeats 4000000 in
theorem flat_any (h g : Hd) (n m : Nat) (ua ub aa ab : Option Addr) (uc ud ac ad : Nat) (w : World) (hU : un.Sl w ua h.un.length uc h.un) (hV : un.Sl w ub g.un.length ud g.un) :
    Calls Tryz.prog 70 #[.agg (exC h n ua uc aa ac), .agg (exC g m ub ud ab ad)] w (Bl (flR h g) w) := by
  have bb := below_two w (.cells (exC h n ua uc aa ac) 29) (.cells (exC g m ub ud ab ad) 29)
  have B0 := Lib.hid bb
  have GG := bw_two w (exC h n ua uc aa ac) (exC g m ub ud ab ad) 29 29
  have G1 := Lib.hid GG.1
  have G2 := Lib.hid GG.2
  have CS := Lib.hid (un.rsame_any _ _ _ _ _ _ _ _ _ (hU.keeps bb) (hV.keeps bb))
  have hE : flR h g = flR h g := rfl
  conv at hE => rhs; unfold flR same
  replace hE := Lib.hid hE
  clear hU hV bb GG
  unfold exC at *
  by_cases hk : h.k = g.k
  · have qn := in_is hk
    replace hE := hE.out
    simp only [decide_eq_true hk, Bool.true_and] at hE
    replace hE := Lib.hid hE
    clear hk
    by_cases e0 : h.op = g.op
    · have qhop := bs_is e0
      replace hE := hE.out
      simp only [decide_eq_true e0, Bool.true_and] at hE
      replace hE := Lib.hid hE
      clear e0
      by_cases e1 : h.nm = g.nm
      · have qhnm := bs_is e1
        replace hE := hE.out
        simp only [decide_eq_true e1, Bool.true_and] at hE
        replace hE := Lib.hid hE
        clear e1
        by_cases e2 : h.tb = g.tb
        · have qhtb := bs_is e2
          replace hE := hE.out
          simp only [decide_eq_true e2, Bool.true_and] at hE
          replace hE := Lib.hid hE
          clear e2
          by_cases e3 : h.vk = g.vk
          · have qhvk := in_is e3
            replace hE := hE.out
            simp only [decide_eq_true e3, Bool.true_and] at hE
            replace hE := Lib.hid hE
            clear e3
            by_cases e4 : h.vn = g.vn
            · have qhvn := in_is e4
              replace hE := hE.out
              simp only [decide_eq_true e4, Bool.true_and] at hE
              replace hE := Lib.hid hE
              clear e4
              by_cases e5 : h.vs = g.vs
              · have qhvs := bs_is e5
                replace hE := hE.out
                simp only [decide_eq_true e5, Bool.true_and] at hE
                replace hE := Lib.hid hE
                clear e5
                go_enter Tryz.func70, Tryz.ntmps70
                go_wp2_with fail
                refine (CS.out).mono ?_
                rintro e w1 ⟨rfl, b1⟩
                have B1 := Lib.hid (bnext B0.out b1)
                replace G1 := Lib.hid (G1.out.keeps b1)
                replace G2 := Lib.hid (G2.out.keeps b1)
                have c8 := G1.out.cell 8
                have c9 := G1.out.cell 9
                have c10 := G1.out.cell 10
                simp only [List.getElem?_toArray, List.getElem?_cons_zero, List.getElem?_cons_succ] at c8 c9 c10
                have d8 := G2.out.cell 8
                have d9 := G2.out.cell 9
                have d10 := G2.out.cell 10
                simp only [List.getElem?_toArray, List.getElem?_cons_zero, List.getElem?_cons_succ] at d8 d9 d10
                clear b1 CS
                have hu : decide (h.un = g.un) = un.sameB h.un g.un := rfl
                replace hE := hE.out
                rw [hu] at hE
                replace hE := Lib.hid hE
                clear hu
                generalize un.sameB h.un g.un = u at *
                cases u
                · replace hE := hE.out
                  simp only [Bool.false_and] at hE
                  replace hE := Lib.hid hE
                  go_wp2_with fail
                  go_ret
                  exact bl_of (by rw [hE.out]) B1.out
                · replace hE := hE.out
                  simp only [Bool.true_and] at hE
                  replace hE := Lib.hid hE
                  by_cases e0 : h.pa = g.pa
                  · have qhpa := in_is e0
                    replace hE := hE.out
                    simp only [decide_eq_true e0, Bool.true_and] at hE
                    replace hE := Lib.hid hE
                    clear e0
                    by_cases e1 : h.wk = g.wk
                    · have qhwk := in_is e1
                      replace hE := hE.out
                      simp only [decide_eq_true e1, Bool.true_and] at hE
                      replace hE := Lib.hid hE
                      clear e1
                      by_cases e2 : h.ws = g.ws
                      · have qhws := in_is e2
                        replace hE := hE.out
                        simp only [decide_eq_true e2] at hE
                        replace hE := Lib.hid hE
                        clear e2
                        go_wp2_with fail
                        go_ret
                        exact bl_of (by rw [hE.out]) B1.out
                      · have qhws := in_ne e2
                        replace hE := hE.out
                        simp only [decide_eq_false e2] at hE
                        replace hE := Lib.hid hE
                        clear e2
                        go_wp2_with fail
                        go_ret
                        exact bl_of (by rw [hE.out]) B1.out
                    · have qhwk := in_ne e1
                      replace hE := hE.out
                      simp only [decide_eq_false e1, Bool.false_and] at hE
                      replace hE := Lib.hid hE
                      clear e1
                      go_wp2_with fail
                      go_ret
                      exact bl_of (by rw [hE.out]) B1.out
                  · have qhpa := in_ne e0
                    replace hE := hE.out
                    simp only [decide_eq_false e0, Bool.false_and] at hE
                    replace hE := Lib.hid hE
                    clear e0
                    go_wp2_with fail
                    go_ret
                    exact bl_of (by rw [hE.out]) B1.out
              · have qhvs := bs_ne e5
                replace hE := hE.out
                simp only [decide_eq_false e5, Bool.false_and] at hE
                replace hE := Lib.hid hE
                clear e5
                go_enter Tryz.func70, Tryz.ntmps70
                go_wp2_with fail
                go_ret
                exact bl_of (by rw [hE.out]) B0.out
            · have qhvn := in_ne e4
              replace hE := hE.out
              simp only [decide_eq_false e4, Bool.false_and] at hE
              replace hE := Lib.hid hE
              clear e4
              go_enter Tryz.func70, Tryz.ntmps70
              go_wp2_with fail
              go_ret
              exact bl_of (by rw [hE.out]) B0.out
          · have qhvk := in_ne e3
            replace hE := hE.out
            simp only [decide_eq_false e3, Bool.false_and] at hE
            replace hE := Lib.hid hE
            clear e3
            go_enter Tryz.func70, Tryz.ntmps70
            go_wp2_with fail
            go_ret
            exact bl_of (by rw [hE.out]) B0.out
        · have qhtb := bs_ne e2
          replace hE := hE.out
          simp only [decide_eq_false e2, Bool.false_and] at hE
          replace hE := Lib.hid hE
          clear e2
          go_enter Tryz.func70, Tryz.ntmps70
          go_wp2_with fail
          go_ret
          exact bl_of (by rw [hE.out]) B0.out
      · have qhnm := bs_ne e1
        replace hE := hE.out
        simp only [decide_eq_false e1, Bool.false_and] at hE
        replace hE := Lib.hid hE
        clear e1
        go_enter Tryz.func70, Tryz.ntmps70
        go_wp2_with fail
        go_ret
        exact bl_of (by rw [hE.out]) B0.out
    · have qhop := bs_ne e0
      replace hE := hE.out
      simp only [decide_eq_false e0, Bool.false_and] at hE
      replace hE := Lib.hid hE
      clear e0
      go_enter Tryz.func70, Tryz.ntmps70
      go_wp2_with fail
      go_ret
      exact bl_of (by rw [hE.out]) B0.out
  · have qn := in_ne hk
    replace hE := hE.out
    simp only [decide_eq_false hk, Bool.false_and] at hE
    replace hE := Lib.hid hE
    clear hk
    go_enter Tryz.func70, Tryz.ntmps70
    go_wp2_with fail
    go_ret
    exact bl_of (by rw [hE.out]) B0.out

/-! Lists of words. -/
def SsV (w : World) (a : Option Addr) (l : List ByteArray) : Prop := l.length = 0 ∨ ∃ b off, a = some ⟨b, off, none⟩ ∧ ∀ j (h : j < l.length), w.cell? ⟨b, off + j, none⟩ = some (.string l[j])
theorem SsV.keeps {w w' : World} {a : Option Addr} {l : List ByteArray} (h : SsV w a l) (hb : Below w.heap.size w w') : SsV w' a l := h.imp id fun ⟨b, off, e, hA⟩ => ⟨b, off, e, fun j hj => dec.keeps hb (hA j hj)⟩
theorem ss_blk {w : World} {g : Nat} {T : TypeId} {l : List ByteArray} (h : Blk w g T (l.map Value.string).toArray) : SsV w (some ⟨g, 0, none⟩) l := .inr ⟨g, 0, rfl, fun j hj => by
  rw [Nat.zero_add, h.cell]
  simp [hj]⟩
theorem any_step (s : ByteArray) {l : List ByteArray} {j : Nat} (h : j < l.length) : (l.drop j).any (fun t => decide (t = s)) = (decide (l[j] = s) || (l.drop (j + 1)).any fun t => decide (t = s)) := by
  rw [List.drop_eq_getElem_cons h, List.any_cons]
set_option maxRecDepth 100000 in
theorem one_any (s : ByteArray) (a : Option Addr) (c : Nat) (l : List ByteArray) (hl : l.length ≤ 1000) (w : World) (hA : SsV w a l) : Calls Tryz.prog 146 #[.string s, .slice a l.length c] w fun e w' => e = .returned (.bool (l.any fun t => decide (t = s))) ∧ w = w' := by
  have HA := Lib.hid hA
  have hE := Lib.hid (show l.any (fun t => decide (t = s)) = (l.drop 0).any fun t => decide (t = s) by rw [List.drop_zero])
  clear hA
  generalize l.any (fun t => decide (t = s)) = V at *
  go_enter Tryz.func146, Tryz.ntmps146
  go_wp2_with fail
  go_loopw [5] (fun x wr => ∃ j : Nat, x = .int .i64 (j : Nat) ∧ Hid (j ≤ l.length) ∧ Hid (V = (l.drop j).any fun t => decide (t = s)) ∧ wr = w) (fun x _ => l.length - (intOf x).toNat)
  case atStart => exact ⟨0, rfl, Lib.hid (Nat.zero_le _), hE, rfl⟩
  case round =>
    clear hE
    obtain ⟨j, rfl, hj, hE, rfl⟩ := hrel
    by_cases hlt : j < l.length
    · have q1 : decide ((j : Int) < (l.length : Int)) = true := decide_eq_true (by omega)
      have i1 : (j : Int) < (l.length : Int) := by omega
      have f4 := Lib.hid (next_at (j := j) (by omega))
      obtain ⟨b, off, rfl, hc⟩ := HA.out.resolve_left (by omega)
      have c1 := hc j hlt
      replace hE := Lib.hid (hE.out.trans (any_step s hlt))
      clear hc HA hj
      generalize hx : l[j] = x at *
      by_cases he : x = s
      · have q2 := bs_is he
        replace hE := Lib.hid (hE.out.trans (by rw [decide_eq_true he, Bool.true_or] : _ = true))
        clear he
        go_wp2_with fail
        go_ret
        exact ⟨congrArg (fun b => Ending.returned (Value.bool b)) hE.out.symm, rfl⟩
      · have q2 := bs_ne he
        replace hE := Lib.hid (hE.out.trans (by rw [decide_eq_false he, Bool.false_or]))
        clear he
        go_wp2_with fail
        exact ⟨⟨j + 1, rfl, Lib.hid hlt, hE, trivial⟩, less_at hlt rfl⟩
    · have q1 : decide ((j : Int) < (l.length : Int)) = false := decide_eq_false (by omega)
      replace hE := Lib.hid (hE.out.trans (by rw [List.drop_eq_nil_of_le (by omega)]; rfl : _ = false))
      go_wp2_with fail
      go_ret
      exact ⟨congrArg (fun b => Ending.returned (Value.bool b)) hE.out.symm, rfl⟩
def opsL : List ByteArray := [⟨#[43]⟩, ⟨#[45]⟩, ⟨#[42]⟩, ⟨#[47]⟩, ⟨#[61, 61]⟩, ⟨#[33, 61]⟩, ⟨#[60]⟩, ⟨#[60, 61]⟩, ⟨#[97, 110, 100]⟩, ⟨#[111, 114]⟩]
def aggL : List ByteArray := [⟨#[99, 111, 117, 110, 116]⟩, ⟨#[115, 117, 109]⟩, ⟨#[109, 101, 97, 110]⟩, ⟨#[109, 105, 110]⟩, ⟨#[109, 97, 120]⟩, ⟨#[102, 105, 114, 115, 116]⟩, ⟨#[108, 97, 115, 116]⟩, ⟨#[100, 105, 115, 116, 105, 110, 99, 116]⟩, ⟨#[113, 117, 97, 110, 116, 105, 108, 101]⟩, ⟨#[100, 101, 99, 97, 121]⟩]
set_option maxRecDepth 100000 in
theorem operators_any (w : World) : Calls Tryz.prog 172 #[] w fun e w' => ∃ a, e = .returned (.slice a 10 10) ∧ SsV w' a opsL ∧ Below w.heap.size w w' := by
  go_enter Tryz.func172, Tryz.ntmps172
  go_wp2_with fail
  go_ret
  exact ⟨_, rfl, ss_blk (l := opsL) (Blk.new _ _ _), balloc (b0 w) _⟩
set_option maxRecDepth 100000 in
theorem aggregates_r (w : World) : Calls Tryz.prog 147 #[] w fun e w' => ∃ a, e = .returned (.slice a 10 10) ∧ SsV w' a aggL ∧ Below w.heap.size w w' := by
  go_enter Tryz.func147, Tryz.ntmps147
  go_wp2_with fail
  go_ret
  exact ⟨_, rfl, ss_blk (l := aggL) (Blk.new _ _ _), balloc (b0 w) _⟩
set_option maxRecDepth 100000 in
set_option maxHeartbeats 4000000 in
theorem window_any (k n : Int) (w : World) : Calls Tryz.prog 239 #[.agg #[.int .i64 k, .int .i64 n]] w (Bl (winH k n) w) := by
  go_enter Tryz.func239, Tryz.ntmps239
  go_wp2_with fail
  all_goals first
    | (exfalso; simp_all; done)
    | (go_ret; refine bl_of ?_ (balloc (b0 w) _); simp only [eqI] at *; unfold winH; simp_all; done)
    | (go_ret; refine bl_of ?_ (balloc (b0 w) _); simp only [eqI] at *; unfold winH; simp_all; omega)
end Go.Proofs.YtbahfelnbofjjaaGreatDoor.ch
namespace Go.Proofs.YtbahfelnbofjjaaGreatDoor.ch
open Go.RowKit dec

theorem true_e (w : World) : Calls Tryz.prog 48 #[] w fun e w' => e = .returned (.agg (exC truX.h 0 none 0 none 0)) ∧ Below w.heap.size w w' := by
  go_enter Tryz.func48, Tryz.ntmps48
  go_wp2_with fail
  exact ret_X Tryz.results48 _ _ _ _ (exC truX.h 0 none 0 none 0) rfl (Blk.new _ _ _) rfl ⟨rfl, balloc (b0 w) _⟩
def rsxR (h : Hd) (n : Nat) : Bool := flR h truX.h && decide (n = 0)
set_option maxRecDepth 100000 in
set_option maxHeartbeats 4000000 in
theorem sameTrue_any (h : Hd) (n : Nat) (ua aa : Option Addr) (uc ac : Nat) (w : World) (hU : un.Sl w ua h.un.length uc h.un) : Calls Tryz.prog 28 #[.agg (exC h n ua uc aa ac), .agg (exC truX.h 0 none 0 none 0)] w (Bl (rsxR h n) w) := by
  have bb := below_two w (.cells (exC h n ua uc aa ac) 29) (.cells (exC truX.h 0 none 0 none 0) 29)
  have B0 := Lib.hid bb
  have GG := bw_two w (exC h n ua uc aa ac) (exC truX.h 0 none 0 none 0) 29 29
  have G := Lib.hid GG.1
  have H := Lib.hid GG.2
  have S0 := Lib.hid (hU.keeps bb)
  have CF := Lib.hid (fun (W : World) (S : un.Sl W ua h.un.length uc h.un) => (show Calls Tryz.prog 70 #[.agg #[.int .i64 h.k, .string h.op, .string h.nm, .string h.tb, .int .i64 h.vk, .int .i64 h.vn, .string h.vs, .slice ua h.un.length uc, .int .i64 h.pa, .int .i64 h.wk, .int .i64 h.ws, .slice aa n ac], .agg (exC truX.h 0 none 0 none 0)] W (Bl (flR h truX.h) W) from flat_any h truX.h n 0 ua none aa none uc 0 ac 0 W S (un.Sl.nil W)))
  have hE : rsxR h n = (flR h truX.h && decide (n = 0)) := rfl
  replace hE := Lib.hid hE
  clear hU bb GG
  generalize flR h truX.h = R at *
  generalize ht : (exC truX.h 0 none 0 none 0) = tv at *
  have e11 := Lib.hid (show tv[11]? = some (.slice none 0 0) from by rw [← ht]; rfl)
  have esz := Lib.hid (show tv.size = 12 from by rw [← ht]; rfl)
  clear ht
  unfold exC at *
  go_enter Tryz.func28, Tryz.ntmps28
  go_upto_region 1 with fail
  generalize hw0 : ((w.alloc (.cells #[.int .i64 h.k, .string h.op, .string h.nm, .string h.tb, .int .i64 h.vk, .int .i64 h.vn, .string h.vs, .slice ua h.un.length uc, .int .i64 h.pa, .int .i64 h.wk, .int .i64 h.ws, .slice aa n ac] 29)).alloc (.cells tv 29)) = w0 at *
  clear hw0
  generalize hg3 : w.heap.size + 1 = g3 at H ⊢
  generalize hg2 : w.heap.size = g2 at G ⊢
  clear hg2 hg3
  go_wp2_with (first | (refine arm_loadT infX Tryz.underlying29 rfl (.tmp 2) rfl rfl _ _ _ rfl G.out rfl ?_) | (refine arm_loadT infX Tryz.underlying29 rfl (.tmp 3) rfl rfl _ _ _ rfl H.out esz.out ?_))
  refine (CF.out _ S0.out).mono ?_
  rintro e w1 ⟨rfl, b1⟩
  have B1 := Lib.hid (bnext B0.out b1)
  replace G := Lib.hid (G.out.keeps b1)
  replace H := Lib.hid (H.out.keeps b1)
  replace S0 := Lib.hid (S0.out.keeps b1)
  clear b1
  have c11 := G.out.cell 11
  have m11 := H.out.cell 11
  rw [e11.out] at m11
  simp only [List.getElem?_toArray, List.getElem?_cons_zero, List.getElem?_cons_succ] at c11
  clear CF
  cases R
  · go_wp2_with fail
    go_ret
    exact bl_of (by rw [hE.out]; rfl) B1.out
  · by_cases hn : n = 0
    · have q := in_is (show (n : Int) = 0 by omega)
      have q2 : ((n : Int) != 0) = false := by subst hn; rfl
      subst hn
      go_wp2_with fail
      go_loopw [5] (fun vi wr => vi = .int .i64 0 ∧ wr = w1) (fun _ _ => 0)
      case atStart => exact ⟨rfl, rfl⟩
      case round =>
        obtain ⟨rfl, rfl⟩ := hrel
        go_wp2_with fail
        go_ret
        exact bl_of (by rw [hE.out]; rfl) B1.out
    · have q2 : ((n : Int) != 0) = true := by simp [hn]
      have q3 := decide_eq_false hn
      replace hn := Lib.hid hn
      go_wp2_with fail
      go_ret
      exact bl_of (by rw [hE.out, q3]; rfl) B1.out
end Go.Proofs.YtbahfelnbofjjaaGreatDoor.ch
namespace Go.Proofs.YtbahfelnbofjjaaGreatDoor.ch
open Go.RowKit dec

set_option maxRecDepth 100000 in
set_option maxHeartbeats 8000000 in
theorem rat_any (h : Hd) (n : Nat) (ua aa : Option Addr) (uc ac : Nat) (w : World) (q r : Int) (t : List UInt8) (ht : t.length ≤ 1000000) (hT : ∀ W, Below w.heap.size w W → Calls Tryz.prog 52 #[.agg (exC h n ua uc aa ac)] W (Sr (B8 t) W)) (hR : ∀ W, Below w.heap.size w W → Calls Tryz.prog 162 #[.agg (exC h n ua uc aa ac)] W (Num r W)) : Calls Tryz.prog 112 #[.agg (exC h n ua uc aa ac), .int .i64 q] w (Sr (B8 (par r q t)) w) := by
  have bb := balloc (b0 w) (.cells (exC h n ua uc aa ac) 29)
  have B0 := Lib.hid bb
  have G := Lib.hid (Blk.new w 29 (exC h n ua uc aa ac))
  clear bb
  have CT := Lib.hid hT
  have CR := Lib.hid hR
  have hP := Lib.hid (show par r q t = if r < q then 40 :: (t ++ [41]) else t from rfl)
  clear hT hR
  have A1 := add_b8 ([40]) (t) (by first | omega | (simp only [List.length_append]; omega) | (simp only [List.length_cons, List.length_nil]; omega) | (simp only [List.length_cons, List.length_append, List.length_nil]; omega) | decide) (by first | omega | (simp only [List.length_append]; omega) | (simp only [List.length_cons, List.length_nil]; omega) | (simp only [List.length_cons, List.length_append, List.length_nil]; omega) | decide)
  replace A1 : ∀ W, (Op.stringOp .add ⟨#[40]⟩ (B8 t)).run Tryz.prog W = .ok (.string (B8 ([40] ++ t))) W := A1
  have A2 := add_b8 (([40] ++ t)) ([41]) (by first | omega | (simp only [List.length_append]; omega) | (simp only [List.length_cons, List.length_nil]; omega) | (simp only [List.length_cons, List.length_append, List.length_nil]; omega) | decide) (by first | omega | (simp only [List.length_append]; omega) | (simp only [List.length_cons, List.length_nil]; omega) | (simp only [List.length_cons, List.length_append, List.length_nil]; omega) | decide)
  replace A2 : ∀ W, (Op.stringOp .add (B8 ([40] ++ t)) ⟨#[41]⟩).run Tryz.prog W = .ok (.string (B8 (([40] ++ t) ++ [41]))) W := A2
  clear ht
  unfold exC at *
  go_enter Tryz.func112, Tryz.ntmps112
  go_upto_region 1 with fail
  generalize hw0 : (w.alloc (.cells #[.int .i64 h.k, .string h.op, .string h.nm, .string h.tb, .int .i64 h.vk, .int .i64 h.vn, .string h.vs, .slice ua h.un.length uc, .int .i64 h.pa, .int .i64 h.wk, .int .i64 h.ws, .slice aa n ac] 29)) = w0 at *
  generalize hg2 : w.heap.size = g2 at G ⊢
  clear hw0 hg2
  go_wp2_with (refine arm_loadT infX Tryz.underlying29 rfl (.tmp 2) rfl rfl _ _ _ rfl G.out rfl ?_)
  refine (CT.out _ B0.out).mono ?_
  rintro e w1 ⟨rfl, b1⟩
  have B1 := Lib.hid (bnext B0.out b1)
  replace G := Lib.hid (G.out.keeps b1)
  clear b1 CT
  go_wp2_with (refine arm_loadT infX Tryz.underlying29 rfl (.tmp 2) rfl rfl _ _ _ rfl G.out rfl ?_)
  refine (CR.out _ B1.out).mono ?_
  rintro e w2 ⟨rfl, b2⟩
  have B2 := Lib.hid (bnext B1.out b2)
  clear b2 CR
  by_cases hq : r < q
  · have qq := decide_eq_true hq
    have hP2 := Lib.hid (show B8 (([40] ++ t) ++ [41]) = B8 (par r q t) by rw [hP.out, if_pos hq]; rfl)
    generalize B8 (([40] ++ t) ++ [41]) = s3 at *
    generalize B8 ([40] ++ t) = s2 at *
    generalize B8 t = s1 at *
    go_wp2_with fail
    go_ret
    exact sr_of hP2.out B2.out
  · have qq := decide_eq_false hq
    have hP2 := Lib.hid (show B8 t = B8 (par r q t) by rw [hP.out, if_neg hq])
    clear A1 A2
    generalize B8 t = s1 at *
    go_wp2_with fail
    go_ret
    exact sr_of hP2.out B2.out
set_option maxRecDepth 100000 in
set_option maxHeartbeats 8000000 in
theorem runary_m (h : Hd) (ua : Option Addr) (bk off : Nat) (uc ac : Nat) (y : Ex) (va wa : Option Addr) (vc wc : Nat) (t : List UInt8) (r : Int) (w : World) (hop : h.op = ⟨#[45]⟩) (ht : t.length ≤ 1000000) (hR1 : w.rangeAt bk off (exC y.h y.ar.len va vc wa wc).toList) (hC : ∀ W, Below w.heap.size w W → Calls Tryz.prog 112 #[.agg (exC y.h y.ar.len va vc wa wc), .int .i64 8] W (Sr (B8 (par r 8 t)) W)) : Calls Tryz.prog 110 #[.agg (exC h 1 ua uc (some ⟨bk, off, none⟩) ac)] w (Sr (B8 ([45] ++ par r 8 t)) w) := by
  have bb := balloc (b0 w) (.cells (exC h 1 ua uc (some ⟨bk, off, none⟩) ac) 29)
  have B0 := Lib.hid bb
  have G := Lib.hid (Blk.new w 29 (exC h 1 ua uc (some ⟨bk, off, none⟩) ac))
  have R1 := Lib.hid (range_keeps hR1 bb)
  have HC := Lib.hid (fun (W : World) (b : Below w.heap.size w W) => hC W b)
  clear hC bb hR1
  have hpl := par_len r 8 t
  have A1 := add_b8 ([45]) ((par r 8 t)) (by first | omega | (simp only [List.length_append]; omega) | (simp only [List.length_cons, List.length_nil]; omega) | (simp only [List.length_cons, List.length_append, List.length_nil]; omega) | decide) (by first | omega | (simp only [List.length_append]; omega) | (simp only [List.length_cons, List.length_nil]; omega) | (simp only [List.length_cons, List.length_append, List.length_nil]; omega) | decide)
  replace A1 : ∀ W, (Op.stringOp .add ⟨#[45]⟩ (B8 (par r 8 t))).run Tryz.prog W = .ok (.string (B8 ([45] ++ (par r 8 t)))) W := A1
  clear ht hpl
  generalize B8 ([45] ++ (par r 8 t)) = s2 at *
  generalize B8 (par r 8 t) = s1 at *
  have e_m := eqL h.op [45]
  have d_m : (h.op.toList == [45]) = true := by rw [e_m, hop]; decide
  have e_n := eqL h.op [110, 111, 116]
  have d_n : (h.op.toList == [110, 111, 116]) = false := by rw [e_n, hop]; decide
  clear e_m e_n
  replace hop := Lib.hid hop
  unfold exC at *
  go_enter Tryz.func110, Tryz.ntmps110
  go_upto_region 1 with fail
  generalize hw0 : (w.alloc (.cells #[.int .i64 h.k, .string h.op, .string h.nm, .string h.tb, .int .i64 h.vk, .int .i64 h.vn, .string h.vs, .slice ua h.un.length uc, .int .i64 h.pa, .int .i64 h.wk, .int .i64 h.ws, .slice (some ⟨bk, off, none⟩) 1 ac] 29)) = w0 at *
  generalize hg2 : w.heap.size = g2 at G ⊢
  clear hw0 hg2
  have c1 := G.out.cell 1
  have c11 := G.out.cell 11
  simp only [List.getElem?_toArray, List.getElem?_cons_zero, List.getElem?_cons_succ] at c1 c11
  go_wp2_with (refine arm_mid infX Tryz.underlying29 rfl (.tmp 9) rfl rfl bk off (exC y.h y.ar.len va vc wa wc) rfl R1.out rfl ?_)
  refine (HC.out _ B0.out).mono ?_
  rintro e w1 ⟨rfl, b1⟩
  have B1 := Lib.hid (bnext B0.out b1)
  clear b1 HC
  go_wp2_with fail
  go_ret
  exact sr_of rfl B1.out
set_option maxRecDepth 100000 in
set_option maxHeartbeats 8000000 in
theorem runary_n (h : Hd) (ua : Option Addr) (bk off : Nat) (uc ac : Nat) (y : Ex) (va wa : Option Addr) (vc wc : Nat) (t : List UInt8) (r : Int) (w : World) (hop : h.op = ⟨#[110, 111, 116]⟩) (ht : t.length ≤ 1000000) (hR1 : w.rangeAt bk off (exC y.h y.ar.len va vc wa wc).toList) (hC : ∀ W, Below w.heap.size w W → Calls Tryz.prog 112 #[.agg (exC y.h y.ar.len va vc wa wc), .int .i64 4] W (Sr (B8 (par r 4 t)) W)) : Calls Tryz.prog 110 #[.agg (exC h 1 ua uc (some ⟨bk, off, none⟩) ac)] w (Sr (B8 ([110, 111, 116, 32] ++ par r 4 t)) w) := by
  have bb := balloc (b0 w) (.cells (exC h 1 ua uc (some ⟨bk, off, none⟩) ac) 29)
  have B0 := Lib.hid bb
  have G := Lib.hid (Blk.new w 29 (exC h 1 ua uc (some ⟨bk, off, none⟩) ac))
  have R1 := Lib.hid (range_keeps hR1 bb)
  have HC := Lib.hid (fun (W : World) (b : Below w.heap.size w W) => hC W b)
  clear hC bb hR1
  have hpl := par_len r 4 t
  have A1 := add_b8 ([110, 111, 116, 32]) ((par r 4 t)) (by first | omega | (simp only [List.length_append]; omega) | (simp only [List.length_cons, List.length_nil]; omega) | (simp only [List.length_cons, List.length_append, List.length_nil]; omega) | decide) (by first | omega | (simp only [List.length_append]; omega) | (simp only [List.length_cons, List.length_nil]; omega) | (simp only [List.length_cons, List.length_append, List.length_nil]; omega) | decide)
  replace A1 : ∀ W, (Op.stringOp .add ⟨#[110, 111, 116, 32]⟩ (B8 (par r 4 t))).run Tryz.prog W = .ok (.string (B8 ([110, 111, 116, 32] ++ (par r 4 t)))) W := A1
  clear ht hpl
  generalize B8 ([110, 111, 116, 32] ++ (par r 4 t)) = s2 at *
  generalize B8 (par r 4 t) = s1 at *
  have e_m := eqL h.op [45]
  have d_m : (h.op.toList == [45]) = false := by rw [e_m, hop]; decide
  have e_n := eqL h.op [110, 111, 116]
  have d_n : (h.op.toList == [110, 111, 116]) = true := by rw [e_n, hop]; decide
  clear e_m e_n
  replace hop := Lib.hid hop
  unfold exC at *
  go_enter Tryz.func110, Tryz.ntmps110
  go_upto_region 1 with fail
  generalize hw0 : (w.alloc (.cells #[.int .i64 h.k, .string h.op, .string h.nm, .string h.tb, .int .i64 h.vk, .int .i64 h.vn, .string h.vs, .slice ua h.un.length uc, .int .i64 h.pa, .int .i64 h.wk, .int .i64 h.ws, .slice (some ⟨bk, off, none⟩) 1 ac] 29)) = w0 at *
  generalize hg2 : w.heap.size = g2 at G ⊢
  clear hw0 hg2
  have c1 := G.out.cell 1
  have c11 := G.out.cell 11
  simp only [List.getElem?_toArray, List.getElem?_cons_zero, List.getElem?_cons_succ] at c1 c11
  go_wp2_with (refine arm_mid infX Tryz.underlying29 rfl (.tmp 17) rfl rfl bk off (exC y.h y.ar.len va vc wa wc) rfl R1.out rfl ?_)
  refine (HC.out _ B0.out).mono ?_
  rintro e w1 ⟨rfl, b1⟩
  have B1 := Lib.hid (bnext B0.out b1)
  clear b1 HC
  go_wp2_with fail
  go_ret
  exact sr_of rfl B1.out
set_option maxRecDepth 100000 in
set_option maxHeartbeats 8000000 in
theorem runary_z (h : Hd) (ua : Option Addr) (bk off : Nat) (uc ac : Nat) (y : Ex) (va wa : Option Addr) (vc wc : Nat) (t : List UInt8) (r : Int) (w : World) (hop : h.op = ⟨#[110, 117, 108, 108]⟩) (ht : t.length ≤ 1000000) (hR1 : w.rangeAt bk off (exC y.h y.ar.len va vc wa wc).toList) (hC : ∀ W, Below w.heap.size w W → Calls Tryz.prog 52 #[.agg (exC y.h y.ar.len va vc wa wc)] W (Sr (B8 (t)) W)) : Calls Tryz.prog 110 #[.agg (exC h 1 ua uc (some ⟨bk, off, none⟩) ac)] w (Sr (B8 (([110, 117, 108, 108, 40] ++ t) ++ [41])) w) := by
  have bb := balloc (b0 w) (.cells (exC h 1 ua uc (some ⟨bk, off, none⟩) ac) 29)
  have B0 := Lib.hid bb
  have G := Lib.hid (Blk.new w 29 (exC h 1 ua uc (some ⟨bk, off, none⟩) ac))
  have R1 := Lib.hid (range_keeps hR1 bb)
  have HC := Lib.hid (fun (W : World) (b : Below w.heap.size w W) => hC W b)
  clear hC bb hR1
  have A1 := add_b8 ([110, 117, 108, 108, 40]) (t) (by first | omega | (simp only [List.length_append]; omega) | (simp only [List.length_cons, List.length_nil]; omega) | (simp only [List.length_cons, List.length_append, List.length_nil]; omega) | decide) (by first | omega | (simp only [List.length_append]; omega) | (simp only [List.length_cons, List.length_nil]; omega) | (simp only [List.length_cons, List.length_append, List.length_nil]; omega) | decide)
  replace A1 : ∀ W, (Op.stringOp .add ⟨#[110, 117, 108, 108, 40]⟩ (B8 t)).run Tryz.prog W = .ok (.string (B8 ([110, 117, 108, 108, 40] ++ t))) W := A1
  have A2 := add_b8 (([110, 117, 108, 108, 40] ++ t)) ([41]) (by first | omega | (simp only [List.length_append]; omega) | (simp only [List.length_cons, List.length_nil]; omega) | (simp only [List.length_cons, List.length_append, List.length_nil]; omega) | decide) (by first | omega | (simp only [List.length_append]; omega) | (simp only [List.length_cons, List.length_nil]; omega) | (simp only [List.length_cons, List.length_append, List.length_nil]; omega) | decide)
  replace A2 : ∀ W, (Op.stringOp .add (B8 ([110, 117, 108, 108, 40] ++ t)) ⟨#[41]⟩).run Tryz.prog W = .ok (.string (B8 (([110, 117, 108, 108, 40] ++ t) ++ [41]))) W := A2
  clear ht
  generalize B8 (([110, 117, 108, 108, 40] ++ t) ++ [41]) = s3 at *
  generalize B8 ([110, 117, 108, 108, 40] ++ t) = s2 at *
  generalize B8 t = s1 at *
  have e_m := eqL h.op [45]
  have d_m : (h.op.toList == [45]) = false := by rw [e_m, hop]; decide
  have e_n := eqL h.op [110, 111, 116]
  have d_n : (h.op.toList == [110, 111, 116]) = false := by rw [e_n, hop]; decide
  clear e_m e_n
  replace hop := Lib.hid hop
  unfold exC at *
  go_enter Tryz.func110, Tryz.ntmps110
  go_upto_region 1 with fail
  generalize hw0 : (w.alloc (.cells #[.int .i64 h.k, .string h.op, .string h.nm, .string h.tb, .int .i64 h.vk, .int .i64 h.vn, .string h.vs, .slice ua h.un.length uc, .int .i64 h.pa, .int .i64 h.wk, .int .i64 h.ws, .slice (some ⟨bk, off, none⟩) 1 ac] 29)) = w0 at *
  generalize hg2 : w.heap.size = g2 at G ⊢
  clear hw0 hg2
  have c1 := G.out.cell 1
  have c11 := G.out.cell 11
  simp only [List.getElem?_toArray, List.getElem?_cons_zero, List.getElem?_cons_succ] at c1 c11
  go_wp2_with (refine arm_mid infX Tryz.underlying29 rfl (.tmp 23) rfl rfl bk off (exC y.h y.ar.len va vc wa wc) rfl R1.out rfl ?_)
  refine (HC.out _ B0.out).mono ?_
  rintro e w1 ⟨rfl, b1⟩
  have B1 := Lib.hid (bnext B0.out b1)
  clear b1 HC
  go_wp2_with fail
  go_ret
  exact sr_of rfl B1.out
end Go.Proofs.YtbahfelnbofjjaaGreatDoor.ch

/-
  The reference's Parse of decimals: for every string.
-/
import Derived.Test.YtkfciilclfhabaaGreatDoorTbs
namespace Go.Proofs.YtkfciilclfhabaaGreatDoor
open Go.RowKit dec

theorem digit_any (c : Nat) (w : World) : Calls Tryz.prog 107 #[.int .u8 (c : Nat)] w fun e w' => e = .returned (.bool (decide (48 ≤ c) && decide (c ≤ 57))) ∧ w' = w := by
  go_enter Tryz.func107, Tryz.ntmps107
  go_wp2
  all_goals go_ret
  all_goals refine ⟨congrArg (fun b => Ending.returned (Value.bool b)) ?_, rfl⟩
  all_goals (rw [Bool.eq_iff_iff]; simp; omega)
theorem digitc_any (c : UInt8) (w : World) : Calls Tryz.prog 107 #[.int .u8 (c.toNat : Nat)] w fun e w' => e = .returned (.bool (isD c)) ∧ w' = w := digit_any c.toNat w
theorem dgn_step (s : ByteArray) {p : Nat} (hp : p < s.size) : dgn (s.data.toList.drop p) = if isD s[p] then dgn (s.data.toList.drop (p + 1)) + 1 else 0 := by
  have h : p < s.data.toList.length := by rw [← Lib.size_eq]; exact hp
  rw [List.drop_eq_getElem_cons h]
  rfl
theorem dgn_end (s : ByteArray) {p : Nat} (hp : s.size ≤ p) : dgn (s.data.toList.drop p) = 0 := by
  rw [List.drop_eq_nil_of_le (by rw [← Lib.size_eq]; exact hp)]
  rfl
set_option maxRecDepth 20000 in
theorem dgs_any (s : ByteArray) (hs : s.size ≤ 1048576) (p : Nat) (hp : p ≤ s.size) (w : World) : Calls Tryz.prog 120 #[.string s, .int .i64 (p : Nat)] w fun e w' => e = .returned (.int .i64 (dgn (s.data.toList.drop p) : Nat)) ∧ w' = w := by
  go_enter Tryz.func120, Tryz.ntmps120
  go_wp2_with fail
  go_loopw [5] (fun x wr => ∃ i : Nat, x = .int .i64 (i : Nat) ∧ p + i ≤ s.size ∧ Hid (dgn (s.data.toList.drop p) = i + dgn (s.data.toList.drop (p + i))) ∧ wr = w) (fun x _ => s.size - (intOf x).toNat)
  case atStart => exact ⟨0, rfl, by omega, by unfold Hid; rw [Nat.add_zero, Nat.zero_add], rfl⟩
  case round =>
    obtain ⟨i, rfl, hi, hd, rfl⟩ := hrel
    by_cases hc : p + i < s.size
    · have hst := dgn_step s hc
      have C := Lib.hid (digitc_any s[p + i] wr)
      have HST := Lib.hid hst
      clear hst
      cases hy : isD s[p + i]
      · rw [hy] at C HST
        have HD : Hid (dgn (s.data.toList.drop p) = i) := by unfold Hid; rw [hd.out, HST.out]; rfl
        clear hy hd HST
        go_wp2_with (go_at_call 107; refine (C.out).mono ?_; rintro e w' ⟨rfl, rfl⟩)
        go_ret
        exact ⟨by rw [HD.out]; rfl, rfl⟩
      · rw [hy] at C HST
        have HD : Hid (dgn (s.data.toList.drop p) = i + 1 + dgn (s.data.toList.drop (p + (i + 1)))) := by
          unfold Hid
          rw [hd.out, HST.out, if_pos rfl, Nat.add_assoc p i 1]
          omega
        clear hy hd HST
        go_wp2_with (go_at_call 107; refine (C.out).mono ?_; rintro e w' ⟨rfl, rfl⟩)
        refine ⟨⟨i + 1, rfl, by omega, HD, trivial⟩, ?_⟩
        show s.size - ((i : Int) + 1).toNat < s.size - ((i : Nat) : Int).toNat
        omega
    · have hz := dgn_end s (p := p + i) (by omega)
      have HD : Hid (dgn (s.data.toList.drop p) = i) := by unfold Hid; rw [hd.out, hz, Nat.add_zero]
      have hlt : decide ((p : Int) + (i : Int) < (s.size : Int)) = false := decide_eq_false (by omega)
      clear hz hc hd
      go_wp2_with fail
      go_ret
      exact ⟨by rw [HD.out]; rfl, rfl⟩
theorem c46 (c : UInt8) : decide (c = 46) = decide (c.toNat = 46) := by
  by_cases h : c = 46
  · subst h; rfl
  · rw [decide_eq_false h]
    exact (decide_eq_false (fun e => h (UInt8.toNat_inj.1 e))).symm
theorem head_at (s : ByteArray) (h : 0 < s.size) : s.data.toList.head? = some s[0] := by
  have h' : 0 < s.data.toList.length := by rw [← Lib.size_eq]; exact h
  rw [List.head?_eq_getElem?, List.getElem?_eq_getElem h']
  rfl
theorem at_cases (s : ByteArray) : (∃ h : 0 < s.size, s[0].toNat = 45 ∧ atP s.data.toList = 1) ∨ ((∃ h : 0 < s.size, s[0].toNat ≠ 45) ∧ atP s.data.toList = 0) ∨ (s.size = 0 ∧ atP s.data.toList = 0) := by
  unfold atP
  by_cases h : 0 < s.size
  · rw [head_at s h]
    by_cases e : s[0].toNat = 45
    · refine .inl ⟨h, e, ?_⟩
      rw [if_pos]
      congr 1
      exact UInt8.toNat_inj.1 e
    · refine .inr (.inl ⟨⟨h, e⟩, ?_⟩)
      rw [if_neg]
      intro e'
      injection e' with e'
      rw [e'] at e
      exact e rfl
  · refine .inr (.inr ⟨by omega, ?_⟩)
    have : s.data.toList = [] := List.eq_nil_of_length_eq_zero (by rw [← Lib.size_eq]; omega)
    rw [this]
    rfl
theorem getD_at' (s : ByteArray) {p : Nat} (h : p < s.size) : s.data.toList.getD p 0 = s[p] := by
  have h' : p < s.data.toList.length := by rw [← Lib.size_eq]; exact h
  rw [List.getD_eq_getElem?_getD, List.getElem?_eq_getElem h']
  rfl
set_option maxRecDepth 20000 in
set_option maxHeartbeats 2000000 in
theorem formed_1 (s : ByteArray) (hs : s.size ≤ 1048576) (w : World) (h0 : 0 < s.size) (h45 : s[0].toNat = 45) (ha : atP s.data.toList = 1) : Calls Tryz.prog 106 #[.string s] w fun e w' => e = .returned (.bool (formP s.data.toList)) ∧ w' = w := by
  have e45 : (((s[0].toNat : Nat) : Int) == 45) = true := by rw [beq_iff_eq]; omega
  obtain ⟨F, hF⟩ : ∃ F, formP s.data.toList = F := ⟨_, rfl⟩
  rw [hF]
  unfold formP at hF
  rw [ha] at hF
  have C1 := Lib.hid (fun w => dgs_any s hs 1 (by omega) w)
  have hn1 := dgn_le (s.data.toList.drop 1)
  rw [List.length_drop, ← Lib.size_eq] at hn1
  rw [← Lib.size_eq] at hF
  generalize dgn (s.data.toList.drop 1) = n1 at *
  by_cases z1 : n1 = 0
  · subst z1
    rw [if_pos rfl] at hF
    subst hF
    clear hn1 ha
    go_enter Tryz.func106, Tryz.ntmps106
    go_wp2_with fail
    refine (C1.out _).mono ?_
    rintro e w' ⟨rfl, rfl⟩
    go_wp2_with fail
    go_ret
    exact ⟨rfl, rfl⟩
  rw [if_neg z1] at hF
  have z1' : ((n1 : Int) == 0) = false := by rw [beq_eq_false_iff_ne]; omega
  by_cases z2 : 1 + n1 = s.size
  · rw [if_pos z2] at hF
    subst hF
    have z2' : ((1 : Int) + (n1 : Int) == (s.size : Int)) = true := by rw [beq_iff_eq]; omega
    clear hn1 ha
    go_enter Tryz.func106, Tryz.ntmps106
    go_wp2_with fail
    refine (C1.out _).mono ?_
    rintro e w' ⟨rfl, rfl⟩
    go_wp2_with fail
    go_ret
    exact ⟨rfl, rfl⟩
  rw [if_neg z2, getD_at' s (p := 1 + n1) (by omega), c46] at hF
  have C2 := Lib.hid (fun w => dgs_any s hs (1 + n1 + 1) (by omega) w)
  have hn2 := dgn_le (s.data.toList.drop (1 + n1 + 1))
  rw [List.length_drop, ← Lib.size_eq] at hn2
  generalize dgn (s.data.toList.drop (1 + n1 + 1)) = n2 at *
  have z2' : ((1 : Int) + (n1 : Int) == (s.size : Int)) = false := by rw [beq_eq_false_iff_ne]; omega
  have HF := Lib.hid hF
  clear hF ha
  go_enter Tryz.func106, Tryz.ntmps106
  go_wp2_with fail
  refine (C1.out _).mono ?_
  rintro e w' ⟨rfl, rfl⟩
  go_wp2_with fail
  refine (C2.out _).mono ?_
  rintro e w' ⟨rfl, rfl⟩
  go_wp2_with fail
  all_goals go_ret
  all_goals refine ⟨congrArg (fun b => Ending.returned (Value.bool b)) ?_, rfl⟩
  all_goals (rw [← HF.out, Bool.eq_iff_iff]; simp; omega)
set_option maxRecDepth 20000 in
set_option maxHeartbeats 8000000 in
theorem formed_0 (s : ByteArray) (hs : s.size ≤ 1048576) (w : World) (h0 : 0 < s.size) (h45 : s[0].toNat ≠ 45) (ha : atP s.data.toList = 0) : Calls Tryz.prog 106 #[.string s] w fun e w' => e = .returned (.bool (formP s.data.toList)) ∧ w' = w := by
  have e45 : ((((s[0].toNat : Nat) : Int)) == 45) = false := by rw [beq_eq_false_iff_ne]; omega
  obtain ⟨F, hF⟩ : ∃ F, formP s.data.toList = F := ⟨_, rfl⟩
  rw [hF]
  unfold formP at hF
  rw [ha] at hF
  have C1 := Lib.hid (fun w => dgs_any s hs 0 (by omega) w)
  have hn1 := dgn_le (s.data.toList.drop 0)
  rw [List.length_drop, ← Lib.size_eq] at hn1
  rw [← Lib.size_eq] at hF
  generalize dgn (s.data.toList.drop 0) = n1 at *
  simp only [Nat.zero_add] at hF
  by_cases z1 : n1 = 0
  · subst z1
    rw [if_pos rfl] at hF
    subst hF
    clear hn1 ha
    go_enter Tryz.func106, Tryz.ntmps106
    go_wp2_with fail
    refine (C1.out _).mono ?_
    rintro e w' ⟨rfl, rfl⟩
    go_wp2_with fail
    go_ret
    exact ⟨rfl, rfl⟩
  rw [if_neg z1] at hF
  have z1' : ((n1 : Int) == 0) = false := by rw [beq_eq_false_iff_ne]; omega
  by_cases z2 : n1 = s.size
  · rw [if_pos z2] at hF
    subst hF
    have z2' : ((n1 : Int) == (s.size : Int)) = true := by rw [beq_iff_eq]; omega
    clear hn1 ha
    go_enter Tryz.func106, Tryz.ntmps106
    go_wp2_with fail
    refine (C1.out _).mono ?_
    rintro e w' ⟨rfl, rfl⟩
    go_wp2_with fail
    go_ret
    exact ⟨rfl, rfl⟩
  rw [if_neg z2, getD_at' s (p := n1) (by omega), c46] at hF
  have C2 := Lib.hid (fun w => dgs_any s hs (n1 + 1) (by omega) w)
  have hn2 := dgn_le (s.data.toList.drop (n1 + 1))
  rw [List.length_drop, ← Lib.size_eq] at hn2
  generalize dgn (s.data.toList.drop (n1 + 1)) = n2 at *
  have z2' : ((n1 : Int) == (s.size : Int)) = false := by rw [beq_eq_false_iff_ne]; omega
  have HF := Lib.hid hF
  clear hF ha
  go_enter Tryz.func106, Tryz.ntmps106
  go_wp2_with fail
  refine (C1.out _).mono ?_
  rintro e w' ⟨rfl, rfl⟩
  go_wp2_with fail
  refine (C2.out _).mono ?_
  rintro e w' ⟨rfl, rfl⟩
  go_wp2_with fail
  all_goals go_ret
  all_goals refine ⟨congrArg (fun b => Ending.returned (Value.bool b)) ?_, rfl⟩
  all_goals (rw [← HF.out, Bool.eq_iff_iff]; simp; omega)
set_option maxRecDepth 20000 in
set_option maxHeartbeats 8000000 in
theorem formed_any (s : ByteArray) (hs : s.size ≤ 1048576) (w : World) : Calls Tryz.prog 106 #[.string s] w fun e w' => e = .returned (.bool (formP s.data.toList)) ∧ w' = w := by
  rcases at_cases s with ⟨h0, h45, ha⟩ | ⟨⟨h0, h45⟩, ha⟩ | ⟨h0, ha⟩
  · exact formed_1 s hs w h0 h45 ha
  · exact formed_0 s hs w h0 h45 ha
  · have h1 : s.data.toList = [] := List.eq_nil_of_length_eq_zero (by rw [← Lib.size_eq]; omega)
    have hF : formP s.data.toList = false := by rw [h1]; rfl
    rw [hF]
    have C1 := Lib.hid (fun w => dgs_any s hs 0 (by omega) w)
    rw [h1] at C1
    replace C1 : Hid (∀ w, Calls Tryz.prog 120 #[.string s, .int .i64 0] w fun e w' => e = .returned (.int .i64 0) ∧ w' = w) := C1
    clear h1 hF ha
    have h0' : decide ((0 : Int) < (s.size : Int)) = false := decide_eq_false (by omega)
    go_enter Tryz.func106, Tryz.ntmps106
    go_wp2_with fail
    refine (C1.out _).mono ?_
    rintro e w' ⟨rfl, rfl⟩
    go_wp2_with fail
    go_ret
    exact ⟨rfl, rfl⟩
end Go.Proofs.YtkfciilclfhabaaGreatDoor

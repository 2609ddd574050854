/-
  Has; the reference's Check and Has: for every value.
-/
import Derived.Test.YtbkpjhffmaldmaaGreatDoorQ01
import Derived.Test.YtbkpjhffmaldmaaGreatDoorQ02
namespace Go.Proofs.YtbkpjhffmaldmaaGreatDoor
open Go.RowKit dec

theorem fields_any (k n : Int) (s : ByteArray) (w : World) : Calls Tryz.prog 160 #[.agg #[.int .i64 k, .int .i64 n, .string s]] w fun e w' => e = .returned (.bool (fmd ⟨k, n, s⟩)) ∧ Below w.heap.size w w' := by
  go_enter Tryz.func160, Tryz.ntmps160
  go_wp2
  all_goals go_ret
  all_goals refine ⟨congrArg (fun b => Ending.returned (Value.bool b)) ?_, balloc (b0 w) _⟩
  all_goals simp_all [fmd, emp]
  all_goals rfl
theorem printable_any (lo : Nat) (s : ByteArray) (hs : s.size ≤ 9223372036854775806) (w : World) : Calls Tryz.prog 178 #[.string s, .int .u8 (lo : Nat)] w fun e w' => e = .returned (.bool (pB lo s.data.toList)) ∧ w = w' := by
  go_enter Tryz.func178, Tryz.ntmps178
  go_wp2
  go_loopw [5] (fun x wr => ∃ i : Nat, x = .int .i64 (i : Nat) ∧ i ≤ s.size ∧ Hid (pB lo s.data.toList = pB lo (s.data.toList.drop i)) ∧ wr = w) (fun x _ => s.size - (intOf x).toNat)
  case atStart => exact ⟨0, rfl, by omega, rfl, rfl⟩
  case round =>
    obtain ⟨i, rfl, hi, hp, rfl⟩ := hrel
    go_wp2
    case roundEnd =>
      have h1 : i < s.size := by omega
      rename_i h2
      simp only [beq_eq_false_iff_ne] at h2
      refine ⟨⟨i + 1, rfl, by omega, ?_, trivial⟩, ?_⟩
      · exact Lib.hid (hp.out.trans ((pB_step lo s h1).2 ((okB_yes lo s[i]).2 (by omega))))
      · show s.size - ((i : Int) + 1).toNat < s.size - ((i : Nat) : Int).toNat
        omega
    all_goals go_ret
    all_goals refine ⟨congrArg (fun b => Ending.returned (Value.bool b)) (Eq.symm ?_), rfl⟩
    all_goals rw [hp.out]
    all_goals first
      | exact pB_end lo s (by omega)
      | exact (pB_step lo s (by omega)).1 ((okB_no lo _).2 (by omega))
      | (rename_i h2; simp only [beq_iff_eq] at h2; exact (pB_step lo s (by omega)).1 ((okB_no lo _).2 (by omega)))
theorem text_any (s : ByteArray) (hs : s.size ≤ 140737488355328) (w : World) : Calls Tryz.prog 162 #[.string s] w fun e w' => e = .returned (.bool (decide (s.size ≤ 64) && pB 32 s.data.toList)) ∧ w = w' := by
  have C1 := Lib.hid (fun w => printable_any 32 s (by omega) w)
  by_cases h : s.size ≤ 64
  · rw [decide_eq_true h]
    go_enter Tryz.func162, Tryz.ntmps162
    go_wp2_with fail
    refine (C1.out _).mono ?_
    rintro e w' ⟨rfl, rfl⟩
    go_wp2
    go_ret
    exact ⟨rfl, rfl⟩
  · rw [decide_eq_false h]
    clear C1
    go_enter Tryz.func162, Tryz.ntmps162
    go_wp2_with fail
    go_ret
    exact ⟨rfl, rfl⟩
theorem key_any (s : ByteArray) (hs : s.size ≤ 140737488355328) (w : World) : Calls Tryz.prog 163 #[.string s] w fun e w' => e = .returned (.bool (!decide (s.size = 0) && decide (s.size ≤ 32) && pB 33 s.data.toList)) ∧ w = w' := by
  have C1 := Lib.hid (fun w => printable_any 33 s (by omega) w)
  by_cases hz : s.size = 0
  · have hz2 := size_zero hz
    subst hz2
    clear C1
    go_enter Tryz.func163, Tryz.ntmps163
    go_wp2_with fail
    go_ret
    exact ⟨rfl, rfl⟩
  have he : s.toList.isEmpty = false := by rw [emp]; exact decide_eq_false hz
  rw [decide_eq_false hz]
  clear hz
  by_cases h : s.size ≤ 32
  · rw [decide_eq_true h]
    go_enter Tryz.func163, Tryz.ntmps163
    go_wp2_with fail
    refine (C1.out _).mono ?_
    rintro e w' ⟨rfl, rfl⟩
    go_wp2
    go_ret
    exact ⟨rfl, rfl⟩
  · rw [decide_eq_false h]
    clear C1
    go_enter Tryz.func163, Tryz.ntmps163
    go_wp2_with fail
    go_ret
    exact ⟨rfl, rfl⟩

/-- Check as the reference spells it. -/
theorem ck_ref (k n : Int) (s : ByteArray) : ck ⟨k, n, s⟩ = if fmd ⟨k, n, s⟩ then (if rg n = false ∨ (k = 4 ∧ ¬ s.size ≤ 64) ∨ (k = 5 ∧ ¬ s.size ≤ 32) then 2
    else if (k = 4 ∧ (decide (s.size ≤ 64) && pB 32 s.data.toList) = false) ∨ (k = 5 ∧ (!decide (s.size = 0) && decide (s.size ≤ 32) && pB 33 s.data.toList) = false) then 3 else 0) else 1 := by
  have r0 : rg 0 = true := by decide
  have r1 : rg 1 = true := by decide
  cases hf : fmd ⟨k, n, s⟩
  · unfold ck; rw [hf]; rfl
  unfold ck
  rw [hf]
  unfold fmd at hf
  simp only at hf
  unfold lmt spl
  simp only
  by_cases k0 : k = 0
  · subst k0
    simp at hf
    rw [hf.1]
    simp [r0]
  by_cases k1 : k = 1
  · subst k1
    simp at hf
    rcases hf.1 with e | e <;> (rw [e]; simp [r0, r1])
  by_cases k2 : k = 2 ∨ k = 3
  · have k4 : ¬ k = 4 := by omega
    have k5 : ¬ k = 5 := by omega
    simp [k2, k4, k5]
    cases rg n <;> simp
  by_cases k4 : k = 4
  · subst k4
    simp at hf
    rw [hf]
    by_cases h : s.size ≤ 64
    · simp [h, r0]
      cases pB 32 s.data.toList <;> simp
    · simp [h]
  by_cases k5 : k = 5
  · subst k5
    simp at hf
    rw [hf]
    by_cases h : s.size ≤ 32
    · simp [h, r0]
      by_cases hz : s = .empty
      · simp [hz]
      · simp [hz]
        cases pB 33 s.data.toList <;> simp
    · simp [h]
  · simp [k0, k1, k4, k5] at hf
    exact absurd hf.1 k2
theorem rcheck_any (k n : Int) (s : ByteArray) (hs : s.size ≤ 140737488355328) (w : World) : Calls Tryz.prog 136 #[.agg #[.int .i64 k, .int .i64 n, .string s]] w fun e w' => e = .returned (.int .i64 (ck ⟨k, n, s⟩)) ∧ Below w.heap.size w w' := by
  have C1 := Lib.hid (fields_any k n s)
  have C2 := Lib.hid (refInRange_any n)
  have C3 := Lib.hid (text_any s hs)
  have C4 := Lib.hid (key_any s hs)
  have V0 := Vx.new w k n s 23
  have E : Hid (ck ⟨k, n, s⟩ = _) := ck_ref k n s
  generalize fmd ⟨k, n, s⟩ = f at *
  generalize rg n = r at *
  go_enter Tryz.func136, Tryz.ntmps136
  go_wp2_with fail
  refine (C1.out _).mono ?_
  rintro e w1 ⟨rfl, b1⟩
  obtain ⟨c0, c1, c2⟩ := V0.keeps b1
  clear V0 C1
  replace b1 := (balloc (b0 w) _).trans (b1.mono (by simp))
  cases f
  · go_wp2_with fail
    go_ret
    exact ⟨by rw [E.out]; rfl, b1⟩
  go_wp2_with fail
  refine (C2.out _).mono ?_
  rintro e w2 ⟨rfl, rfl⟩
  cases r
  · go_wp2_with fail
    go_ret
    exact ⟨by rw [E.out]; simp, b1⟩
  clear C2
  by_cases k4 : k = 4
  · subst k4
    clear C4
    by_cases h : s.size ≤ 64
    · have C : Hid (∀ w, Calls Tryz.prog 162 #[.string s] w fun e w' => e = .returned (.bool (pB 32 s.data.toList)) ∧ w = w') := by
        have := C3.out
        rw [decide_eq_true h] at this
        exact this
      clear C3
      generalize pB 32 s.data.toList = p at *
      go_wp2_with fail
      refine (C.out _).mono ?_
      rintro e w3 ⟨rfl, rfl⟩
      cases p
      · go_wp2_with fail
        go_ret
        exact ⟨by rw [E.out]; simp [h], b1⟩
      · go_wp2_with fail
        go_ret
        exact ⟨by rw [E.out]; simp [h], b1⟩
    · clear C3
      go_wp2_with fail
      go_ret
      exact ⟨by rw [E.out]; simp [h], b1⟩
  clear C3
  by_cases k5 : k = 5
  · subst k5
    by_cases h : s.size ≤ 32
    · have C : Hid (∀ w, Calls Tryz.prog 163 #[.string s] w fun e w' => e = .returned (.bool (!decide (s.size = 0) && decide (s.size ≤ 32) && pB 33 s.data.toList)) ∧ w = w') := C4.out
      clear C4
      generalize (!decide (s.size = 0) && decide (s.size ≤ 32) && pB 33 s.data.toList) = p at *
      go_wp2_with fail
      refine (C.out _).mono ?_
      rintro e w3 ⟨rfl, rfl⟩
      cases p
      · go_wp2_with fail
        go_ret
        exact ⟨by rw [E.out]; simp [h], b1⟩
      · go_wp2_with fail
        go_ret
        exact ⟨by rw [E.out]; simp [h], b1⟩
    · clear C4
      go_wp2_with fail
      go_ret
      exact ⟨by rw [E.out]; simp [h], b1⟩
  clear C4
  go_wp2_with fail
  go_ret
  exact ⟨by rw [E.out]; simp [k4, k5], b1⟩
/-- Has. -/
def hsP (v : Va) (t : Int) : Bool := ok v && (decide (v.k = 0) || decide (v.k = t))
theorem has_any (k n : Int) (s : ByteArray) (hs : s.size ≤ 140737488355328) (t : Int) (a : Option Addr) (m cap : Nat) (o : ByteArray) (w : World) : Calls Tryz.prog 33 #[.agg #[.int .i64 k, .int .i64 n, .string s], .agg #[.int .i64 t, .slice a m cap, .string o]] w fun e w' => e = .returned (.bool (hsP ⟨k, n, s⟩ t)) ∧ Below w.heap.size w w' := by
  have C1 := Lib.hid (check_any k n s hs)
  have V0 := (Vx.new w k n s 23).past (.cells #[.int .i64 t, .slice a m cap, .string o] 36)
  have T0 : ((w.alloc (.cells #[.int .i64 k, .int .i64 n, .string s] 23)).alloc (.cells #[.int .i64 t, .slice a m cap, .string o] 36)).cell? ⟨w.heap.size + 1, 0, none⟩ = some (.int .i64 t) := by simp [go_sem]
  have E : Hid (hsP ⟨k, n, s⟩ t = (ok ⟨k, n, s⟩ && (decide (k = 0) || decide (k = t)))) := rfl
  have E2 : Hid (ok ⟨k, n, s⟩ = decide (ck ⟨k, n, s⟩ = 0)) := rfl
  generalize ck ⟨k, n, s⟩ = c at *
  generalize ok ⟨k, n, s⟩ = q at *
  go_enter Tryz.func33, Tryz.ntmps33
  go_wp2_with fail
  refine (C1.out _).mono ?_
  rintro e w1 ⟨rfl, b1⟩
  obtain ⟨c0, c1, c2⟩ := V0.keeps b1
  have t0 := keeps b1 T0
  clear V0 T0 C1
  replace b1 := (balloc (balloc (b0 w) _) _).trans (b1.mono (by simp; omega))
  by_cases hc : c = 0
  · subst hc
    go_wp2_with fail
    all_goals go_ret
    all_goals refine ⟨congrArg (fun b => Ending.returned (Value.bool b)) ?_, b1⟩
    all_goals (rw [E.out, E2.out]; simp_all)
    all_goals (rename_i hk; have hk2 : (k == 0) = false := by (rw [beq_eq_false_iff_ne]; exact hk))
    all_goals (rw [hk2]; rfl)
  · go_wp2_with fail
    all_goals go_ret
    all_goals refine ⟨congrArg (fun b => Ending.returned (Value.bool b)) ?_, b1⟩
    all_goals (rw [E.out, E2.out]; simp_all)
end Go.Proofs.YtbkpjhffmaldmaaGreatDoor

/-
  What is skipped.
-/
import Derived.Test.YtkfciilclfhabaaGreatDoorClo
namespace Go.Proofs.YtkfciilclfhabaaGreatDoor
open Go.RowKit dec

theorem sk_end (s : ByteArray) {j : Nat} (h : s.size ≤ j) : sk false (s.data.toList.drop j) = 0 := by
  rw [List.drop_eq_nil_of_le (by rw [str_len]; exact h)]
  rfl
/-- One pass: blanks, then perhaps a comment. -/
theorem sk_pass (s : ByteArray) (i : Nat) : i + sk false (s.data.toList.drop i) = (i + run isB (s.data.toList.drop i)) + sk false (s.data.toList.drop (i + run isB (s.data.toList.drop i))) := by
  conv => lhs; rw [sk_blanks]
  rw [List.drop_drop]
  omega
theorem sk_comment (s : ByteArray) {j : Nat} (h : j < s.size) (hc : s[j].toNat = 35) : j + sk false (s.data.toList.drop j) = (j + run isC (s.data.toList.drop j)) + sk false (s.data.toList.drop (j + run isC (s.data.toList.drop j))) := by
  have e := at_drop s h
  conv => lhs; rw [e]
  rw [sk_hash hc, ← e, List.drop_drop]
  omega
theorem sk_stop (s : ByteArray) {j : Nat} (h : j < s.size) (h1 : isB s[j] = false) (hc : s[j].toNat ≠ 35) : sk false (s.data.toList.drop j) = 0 := by
  rw [at_drop s h]
  exact sk_none h1 hc _
theorem run_here (p : UInt8 → Bool) (s : ByteArray) {i j : Nat} (hj : j = i + run p (s.data.toList.drop i)) (h : j < s.size) : p s[j] = false := by
  subst hj
  refine run_at p (s.data.toList.drop i) _ ?_
  rw [List.drop_drop, at_drop s h]
  rfl
theorem run_size (p : UInt8 → Bool) (s : ByteArray) {i : Nat} (h : i ≤ s.size) : i + run p (s.data.toList.drop i) ≤ s.size := by
  have := run_le p (s.data.toList.drop i)
  rw [List.length_drop, str_len] at this
  omega
theorem run_more (p : UInt8 → Bool) (s : ByteArray) {j : Nat} (h : j < s.size) (hp : p s[j] = true) : j < j + run p (s.data.toList.drop j) := by
  rw [run_drop p s h, if_pos hp]
  omega
theorem eqb (a b : Int) : (a == b) = decide (a = b) := by
  rw [Bool.eq_iff_iff]
  simp
theorem cls_hash (c : UInt8) : (cls c == 3) = decide (c.toNat = 35) := by
  have := clsOk_all c
  unfold clsOk at this
  simp only [Bool.and_eq_true, beq_iff_eq] at this
  rw [← this.1.2, eqb]
set_option maxRecDepth 100000 in
set_option maxHeartbeats 2000000 in
theorem skip_any (s : ByteArray) (hs : s.size ≤ 140737488355328) (i : Nat) (hi : i ≤ s.size) (w : World) (T : Tabs w) :
    Calls Tryz.prog 25 #[.string s, .int .i64 (i : Nat)] w fun e w' => e = .returned (.int .i64 (i + sk false (s.data.toList.drop i) : Nat)) ∧ Below w.heap.size w w' := by
  have RC := Lib.hid (runsOf_any s w)
  have CB := Lib.hid (fun i hi W h T => run_any set_B s hs i hi w.heap.size W h T)
  have CC := Lib.hid (fun i hi W h T => run_any set_C s hs i hi w.heap.size W h T)
  have CO := Lib.hid (fun (c : UInt8) W T => classOf_any c W T)
  have T0 := Lib.hid T
  have Z0 := Lib.hid hs
  obtain ⟨R, hR⟩ : ∃ R, i + sk false (s.data.toList.drop i) = R := ⟨_, rfl⟩
  rw [hR]
  replace hR := Lib.hid hR
  replace hi := Lib.hid hi
  clear T hs
  go_enter Tryz.func25, Tryz.ntmps25
  go_wp2_with fail
  refine wp_scope_jumps 0 (fun a' w' => ∃ (j : Nat) (f0 f1 f2 f3 f4 f5 f6 f7 f8 f9 f10 f11 f12 f13 f14 f15 f16 f17 f18 f19 : Value), a' = { tmps := #[.string s, .int .i64 (j : Nat), undef, undef, .int .i64 0, .func (.func 79) #[] #[.pointer (some ⟨w.heap.size, 0, none⟩)], f0, f1, f2, f3, f4, f5, f6, f7, f8, f9, f10, f11, f12, f13, f14, f15, f16, f17, f18, f19], defers := [] } ∧ Hid (j ≤ s.size) ∧ Hid (j + sk false (s.data.toList.drop j) = R) ∧ w'.cell? ⟨w.heap.size, 0, none⟩ = some (.string s) ∧ Hid (Below w.heap.size w w')) (fun a' _ => s.size - (intOf (a'.tmps.getD 1 undef)).toNat) rfl ?_ ?_
  · go_wp2_with fail
    refine RC.out.mono ?_
    rintro e w1 ⟨rfl, c1, z1, b1⟩
    have B1 := Lib.hid b1
    clear b1 z1
    go_wp2_with fail
    go_step3
    go_wp2_with fail
    refine (CB.out i hi.out _ c1 (T0.out.stays B1.out)).mono ?_
    rintro e w2 ⟨rfl, rfl⟩
    have hp := Lib.hid ((sk_pass s i).symm.trans hR.out)
    have hz1 := Lib.hid (run_size isB s hi.out)
    have hw1 := Lib.hid (fun h => run_here isB s (i := i) rfl h)
    have hge := Lib.hid (Nat.le_add_right i (run isB (s.data.toList.drop i)))
    generalize i + run isB (s.data.toList.drop i) = j1 at *
    by_cases hc : j1 < s.size
    · have q2 : decide ((j1 : Int) < (s.size : Int)) = true := decide_eq_true (by omega)
      have hcl := cls_hash s[j1]
      have C := Lib.hid (CO.out s[j1] w2 (T0.out.stays B1.out))
      by_cases h35 : s[j1].toNat = 35
      · rw [decide_eq_true h35] at hcl
        have hq := Lib.hid ((sk_comment s hc h35).symm.trans hp.out)
        have hz2 := Lib.hid (run_size isC s (Nat.le_of_lt hc))
        have hmore := Lib.hid (run_more isC s hc (by unfold isC; rw [h35]; rfl))
        have C2 := Lib.hid (CC.out j1 (Nat.le_of_lt hc) w2 c1 (T0.out.stays B1.out))
        clear h35 hp
        generalize cls s[j1] = k at C hcl
        generalize j1 + run isC (s.data.toList.drop j1) = j2 at *
        go_wp2_with (first | (go_at_call 49; refine (C.out).mono ?_; rintro e w' ⟨rfl, rfl⟩) | (go_at_call 79; refine (C2.out).mono ?_; rintro e w' ⟨rfl, rfl⟩))
        go_step3
        exact ⟨rfl, j2, _, _, _, _, _, _, _, _, _, _, _, _, _, _, _, _, _, _, _, _, rfl, hz2, hq, c1, B1⟩
      · rw [decide_eq_false h35] at hcl
        have hq := Lib.hid (show j1 = R by rw [← hp.out, sk_stop s hc (hw1.out hc) h35, Nat.add_zero])
        clear h35 hp
        generalize cls s[j1] = k at C hcl
        go_wp2_with (go_at_call 49; refine (C.out).mono ?_; rintro e w' ⟨rfl, rfl⟩)
        simp only [Exit.jump]
        go_ret
        exact ⟨retN hq.out, B1.out⟩
    · have q2 : decide ((j1 : Int) < (s.size : Int)) = false := decide_eq_false (by omega)
      have hq := Lib.hid (show j1 = R by rw [← hp.out, sk_end s (by omega), Nat.add_zero])
      clear hp
      go_wp2_with fail
      simp only [Exit.jump]
      go_ret
      exact ⟨retN hq.out, B1.out⟩
  · rintro a' w1 ⟨j, f0, f1, f2, f3, f4, f5, f6, f7, f8, f9, f10, f11, f12, f13, f14, f15, f16, f17, f18, f19, rfl, hj, hr, c1, B1⟩
    go_wp2_with fail
    refine (CB.out j hj.out _ c1 (T0.out.stays B1.out)).mono ?_
    rintro e w2 ⟨rfl, rfl⟩
    have hp := Lib.hid ((sk_pass s j).symm.trans hr.out)
    have hz1 := Lib.hid (run_size isB s hj.out)
    have hw1 := Lib.hid (fun h => run_here isB s (i := j) rfl h)
    have hge := Lib.hid (Nat.le_add_right j (run isB (s.data.toList.drop j)))
    generalize j + run isB (s.data.toList.drop j) = j1 at *
    by_cases hc : j1 < s.size
    · have q2 : decide ((j1 : Int) < (s.size : Int)) = true := decide_eq_true (by omega)
      have hcl := cls_hash s[j1]
      have C := Lib.hid (CO.out s[j1] w2 (T0.out.stays B1.out))
      by_cases h35 : s[j1].toNat = 35
      · rw [decide_eq_true h35] at hcl
        have hq := Lib.hid ((sk_comment s hc h35).symm.trans hp.out)
        have hz2 := Lib.hid (run_size isC s (Nat.le_of_lt hc))
        have hmore := Lib.hid (run_more isC s hc (by unfold isC; rw [h35]; rfl))
        have C2 := Lib.hid (CC.out j1 (Nat.le_of_lt hc) w2 c1 (T0.out.stays B1.out))
        clear h35 hp
        generalize cls s[j1] = k at C hcl
        generalize j1 + run isC (s.data.toList.drop j1) = j2 at *
        go_wp2_with (first | (go_at_call 49; refine (C.out).mono ?_; rintro e w' ⟨rfl, rfl⟩) | (go_at_call 79; refine (C2.out).mono ?_; rintro e w' ⟨rfl, rfl⟩))
        go_step3
        refine ⟨rfl, ⟨j2, _, _, _, _, _, _, _, _, _, _, _, _, _, _, _, _, _, _, _, _, rfl, hz2, hq, c1, B1⟩, ?_⟩
        · have := hmore.out
          have := hge.out
          show s.size - ((j2 : Nat) : Int).toNat < s.size - ((j : Nat) : Int).toNat
          omega
      · rw [decide_eq_false h35] at hcl
        have hq := Lib.hid (show j1 = R by rw [← hp.out, sk_stop s hc (hw1.out hc) h35, Nat.add_zero])
        clear h35 hp
        generalize cls s[j1] = k at C hcl
        go_wp2_with (go_at_call 49; refine (C.out).mono ?_; rintro e w' ⟨rfl, rfl⟩)
        simp only [Exit.jump]
        go_ret
        exact ⟨retN hq.out, B1.out⟩
    · have q2 : decide ((j1 : Int) < (s.size : Int)) = false := decide_eq_false (by omega)
      have hq := Lib.hid (show j1 = R by rw [← hp.out, sk_end s (by omega), Nat.add_zero])
      clear hp
      go_wp2_with fail
      simp only [Exit.jump]
      go_ret
      exact ⟨retN hq.out, B1.out⟩
end Go.Proofs.YtkfciilclfhabaaGreatDoor

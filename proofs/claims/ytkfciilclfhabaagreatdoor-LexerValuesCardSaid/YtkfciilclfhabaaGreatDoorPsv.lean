/-
  values.candidate and values.Parse: for every string.
-/
import Derived.Test.YtkfciilclfhabaaGreatDoorFmv
import Derived.Test.YtkfciilclfhabaaGreatDoorVw
namespace Go.Proofs.YtkfciilclfhabaaGreatDoor
open Go.RowKit dec

theorem slice_s (s : ByteArray) (h : 1 ≤ s.size) (W : World) : (Instr.slice 9 (.string s) (some (.int .i64 1)) none none).run Tryz.prog W = .ok (.string ⟨(s.data.toList.drop 1).toArray⟩) W :=
  slice_one s.data.toList (by rw [← Lib.size_eq]; exact h) W
theorem pre_size {l : List UInt8} {x : UInt8} (h : Lib.hasPrefix l [x] = true) : 1 ≤ l.length := by
  cases l with
  | nil => cases h
  | cons c l => simp
set_option maxRecDepth 20000 in
theorem cand_any (s : ByteArray) (hs : s.size ≤ 1048576) (w : World) (T : Tabs w) : Calls Tryz.prog 47 #[.string s] w fun e w' => ∃ v : Va, e = .returned (.agg #[.int .i64 v.k, .int .i64 v.n, .string v.s]) ∧ v = cdP s.data.toList ∧ Below w.heap.size w w' := by
  have bl := balloc (b0 w) (.cells #[.int .i64 0, .int .i64 0, .string ⟨#[]⟩] 42)
  have V0 := Vw.new w 0 0 ⟨#[]⟩ 42
  have T0 := T.stays bl
  have hl : s.toList = s.data.toList := ByteArray.toList_eq s
  have BL := Lib.hid bl
  clear bl T
  by_cases e0 : s.data.toList = [110, 117, 108, 108]
  · have h0 : (s.toList == [110, 117, 108, 108]) = true := by rw [hl, beq_iff_eq]; exact e0
    have E : Hid (cdP s.data.toList = ⟨0, 0, .empty⟩) := by unfold Hid cdP; rw [if_pos e0]
    clear e0 hl
    go_enter Tryz.func47, Tryz.ntmps47
    go_wp2_with fail
    simp [bodyPost, results, Tryz.results47, go_sem]
    exact ⟨⟨0, 0, .empty⟩, ⟨rfl, rfl, rfl⟩, E.out.symm, balloc (b0 w) _⟩
  have h0 : (s.toList == [110, 117, 108, 108]) = false := by rw [hl, beq_eq_false_iff_ne]; exact e0
  by_cases e1 : s.data.toList = [116, 114, 117, 101]
  · have h1 : (s.toList == [116, 114, 117, 101]) = true := by rw [hl, beq_iff_eq]; exact e1
    have E : Hid (cdP s.data.toList = ⟨1, 1, .empty⟩) := by unfold Hid cdP; rw [if_neg e0, if_pos e1]
    clear e0 e1 hl
    go_enter Tryz.func47, Tryz.ntmps47
    go_wp2_with fail
    simp [bodyPost, results, Tryz.results47, go_sem]
    exact ⟨⟨1, 1, .empty⟩, ⟨rfl, rfl, rfl⟩, E.out.symm, balloc (b0 w) _⟩
  have h1 : (s.toList == [116, 114, 117, 101]) = false := by rw [hl, beq_eq_false_iff_ne]; exact e1
  by_cases e2 : s.data.toList = [102, 97, 108, 115, 101]
  · have h2 : (s.toList == [102, 97, 108, 115, 101]) = true := by rw [hl, beq_iff_eq]; exact e2
    have E : Hid (cdP s.data.toList = ⟨1, 0, .empty⟩) := by unfold Hid cdP; rw [if_neg e0, if_neg e1, if_pos e2]
    clear e0 e1 e2 hl
    go_enter Tryz.func47, Tryz.ntmps47
    go_wp2_with fail
    simp [bodyPost, results, Tryz.results47, go_sem]
    exact ⟨⟨1, 0, .empty⟩, ⟨rfl, rfl, rfl⟩, E.out.symm, balloc (b0 w) _⟩
  have h2 : (s.toList == [102, 97, 108, 115, 101]) = false := by rw [hl, beq_eq_false_iff_ne]; exact e2
  have A1 : Hid (∀ w, Calls Tryz.prog 50 #[.string s, .string ⟨#[34]⟩] w fun e w' => e = .returned (.bool (Lib.hasPrefix s.data.toList [34])) ∧ w' = w) := Tryz.strings_HasPrefix s ⟨#[34]⟩
  have A2 : Hid (∀ w, Calls Tryz.prog 50 #[.string s, .string ⟨#[64]⟩] w fun e w' => e = .returned (.bool (Lib.hasPrefix s.data.toList [64])) ∧ w' = w) := Tryz.strings_HasPrefix s ⟨#[64]⟩
  have A3 : Hid (∀ w, Calls Tryz.prog 78 #[.string s, .string ⟨#[46]⟩] w fun e w' => e = .returned (.bool (decide (0 ≤ Lib.indexByte s.data.toList 46))) ∧ w' = w) := Tryz.strings_Contains_one s 46
  cases hq1 : Lib.hasPrefix s.data.toList [34]
  · cases hq2 : Lib.hasPrefix s.data.toList [64]
    · by_cases hq3 : 0 ≤ Lib.indexByte s.data.toList 46
      · have E : Hid (cdP s.data.toList = ⟨3, paX s.data.toList, .empty⟩) := by unfold Hid cdP; rw [if_neg e0, if_neg e1, if_neg e2, hq1, if_neg (by decide), hq2, if_neg (by decide), if_pos hq3]
        have C := Lib.hid (parse_any s (w.alloc (.cells #[.int .i64 0, .int .i64 0, .string ⟨#[]⟩] 42)) (by omega) T0.pow)
        generalize paX s.data.toList = x at *
        clear e0 e1 e2 hl
        have hd : decide (0 ≤ Lib.indexByte s.data.toList 46) = true := by simpa using hq3
        go_enter Tryz.func47, Tryz.ntmps47
        go_wp2_with fail
        refine (A1.out _).mono ?_
        rw [hq1]
        rintro e w1 ⟨rfl, rfl⟩
        go_wp2_with fail
        refine (A2.out _).mono ?_
        rw [hq2]
        rintro e w1 ⟨rfl, rfl⟩
        clear hq1 hq2
        go_wp2_with fail
        refine (A3.out _).mono ?_
        rw [hd]
        rintro e w1 ⟨rfl, rfl⟩
        clear hd hq3
        go_wp2_with fail
        refine (C.out).mono ?_
        rintro e w1 ⟨rfl, b1⟩
        obtain ⟨⟨c0, c1, c2⟩, f0, f1, f2⟩ := V0.keeps b1
        have V1 := (V0.keeps b1).val
        clear V0
        replace b1 := BL.out.trans (b1.mono (by simp))
        go_wp2_with fail
        obtain ⟨d0, d1, d2⟩ := V1.put 3 x ⟨#[]⟩
        simp [bodyPost, results, Tryz.results47, go_sem, d0, d1, d2]
        exact ⟨⟨3, x, .empty⟩, ⟨rfl, rfl, rfl⟩, E.out.symm, put_below b1 (Nat.le_refl _) _ _ _⟩
      · have E : Hid (cdP s.data.toList = ⟨2, atoiN s.data.toList, .empty⟩) := by unfold Hid cdP; rw [if_neg e0, if_neg e1, if_neg e2, hq1, if_neg (by decide), hq2, if_neg (by decide), if_neg hq3]
        have C := Lib.hid (atoi_any s hs (w.alloc (.cells #[.int .i64 0, .int .i64 0, .string ⟨#[]⟩] 42)) T0)
        generalize atoiN s.data.toList = x at *
        clear e0 e1 e2 hl
        have hd : decide (0 ≤ Lib.indexByte s.data.toList 46) = false := by simpa using hq3
        go_enter Tryz.func47, Tryz.ntmps47
        go_wp2_with fail
        refine (A1.out _).mono ?_
        rw [hq1]
        rintro e w1 ⟨rfl, rfl⟩
        go_wp2_with fail
        refine (A2.out _).mono ?_
        rw [hq2]
        rintro e w1 ⟨rfl, rfl⟩
        clear hq1 hq2
        go_wp2_with fail
        refine (A3.out _).mono ?_
        rw [hd]
        rintro e w1 ⟨rfl, rfl⟩
        clear hd hq3
        go_wp2_with fail
        refine (C.out).mono ?_
        rintro e w1 ⟨y, rfl, b1⟩
        obtain ⟨⟨c0, c1, c2⟩, f0, f1, f2⟩ := V0.keeps b1
        have V1 := (V0.keeps b1).val
        clear V0
        replace b1 := BL.out.trans (b1.mono (by simp))
        go_wp2_with fail
        obtain ⟨d0, d1, d2⟩ := V1.put 2 x ⟨#[]⟩
        simp [bodyPost, results, Tryz.results47, go_sem, d0, d1, d2]
        exact ⟨⟨2, x, .empty⟩, ⟨rfl, rfl, rfl⟩, E.out.symm, put_below b1 (Nat.le_refl _) _ _ _⟩
    · have hsz : 1 ≤ s.size := by rw [Lib.size_eq]; exact pre_size hq2
      have hsl := slice_s s hsz
      have E : Hid (cdP s.data.toList = ⟨5, 0, ⟨(s.data.toList.drop 1).toArray⟩⟩) := by unfold Hid cdP; rw [if_neg e0, if_neg e1, if_neg e2, hq1, if_neg (by decide), hq2, if_pos rfl]
      clear e0 e1 e2 hl A3
      generalize s.data.toList.drop 1 = t at *
      go_enter Tryz.func47, Tryz.ntmps47
      go_wp2_with fail
      refine (A1.out _).mono ?_
      rw [hq1]
      rintro e w1 ⟨rfl, rfl⟩
      go_wp2_with fail
      refine (A2.out _).mono ?_
      rw [hq2]
      rintro e w1 ⟨rfl, rfl⟩
      clear hq1 hq2
      go_wp2_with fail
      simp [bodyPost, results, Tryz.results47, go_sem]
      exact ⟨⟨5, 0, ⟨t.toArray⟩⟩, ⟨rfl, rfl, rfl⟩, E.out.symm, balloc (b0 w) _⟩
  · have hsz : 1 ≤ s.size := by rw [Lib.size_eq]; exact pre_size hq1
    have hsl := slice_s s hsz
    have hd : (s.data.toList.drop 1).length ≤ 1048576 := by rw [List.length_drop, ← Lib.size_eq]; omega
    have C := Lib.hid (fun w => Tryz.strings_TrimSuffix ⟨(s.data.toList.drop 1).toArray⟩ ⟨#[34]⟩ w (by show (s.data.toList.drop 1).toArray.size ≤ _; rw [List.size_toArray]; omega))
    have E : Hid (cdP s.data.toList = ⟨4, 0, ⟨(Lib.trimSuffix (s.data.toList.drop 1) [34]).toArray⟩⟩) := by unfold Hid cdP; rw [if_neg e0, if_neg e1, if_neg e2, hq1, if_pos rfl]
    replace C : Hid (∀ w, Calls Tryz.prog 77 #[.string ⟨(s.data.toList.drop 1).toArray⟩, .string ⟨#[34]⟩] w fun e w' => e = .returned (.string ⟨(Lib.trimSuffix (s.data.toList.drop 1) [34]).toArray⟩) ∧ w' = w) := C
    clear e0 e1 e2 hl hd A2 A3
    generalize Lib.trimSuffix (s.data.toList.drop 1) [34] = t at *
    generalize (⟨(s.data.toList.drop 1).toArray⟩ : ByteArray) = s2 at *
    go_enter Tryz.func47, Tryz.ntmps47
    go_wp2_with fail
    refine (A1.out _).mono ?_
    rw [hq1]
    rintro e w1 ⟨rfl, rfl⟩
    clear hq1
    go_wp2_with fail
    refine (C.out _).mono ?_
    rintro e w1 ⟨rfl, rfl⟩
    go_wp2_with fail
    simp [bodyPost, results, Tryz.results47, go_sem]
    exact ⟨⟨4, 0, ⟨t.toArray⟩⟩, ⟨rfl, rfl, rfl⟩, E.out.symm, balloc (b0 w) _⟩
end Go.Proofs.YtkfciilclfhabaaGreatDoor

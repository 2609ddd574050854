/-
  The walk of ValuesCompares.
-/
import Derived.Test.YtmogkinaegdioaaGreatDoorShv
namespace Go.Proofs.YtmogkinaegdioaaGreatDoor
open Go.RowKit dec

/-- Two values as the walk compares them. -/
theorem va_eq (k n k2 n2 : Int) (s s2 : ByteArray) : decide ((⟨k, n, s⟩ : Va) = ⟨k2, n2, s2⟩) = (k == k2 && (n == n2 && s.toList == s2.toList)) := by
  by_cases h : (⟨k, n, s⟩ : Va) = ⟨k2, n2, s2⟩
  · cases h; simp
  · rw [decide_eq_false h]
    by_cases h1 : k = k2
    · by_cases h2 : n = n2
      · have h3 : s.toList ≠ s2.toList := fun e => h (by rw [h1, h2, toList_inj e])
        simp [h3]
      · simp [h2]
    · simp [h1]
set_option maxRecDepth 100000 in
set_option maxHeartbeats 2000000 in
theorem walk_compares (k n : Int) (s : ByteArray) (k2 n2 : Int) (s2 : ByteArray) (k3 n3 : Int) (s3 : ByteArray) (w : World) (T : Tabs w) :
    Calls Tryz.prog 4 #[.agg #[.int .i64 k, .int .i64 n, .string s], .agg #[.int .i64 k2, .int .i64 n2, .string s2], .agg #[.int .i64 k3, .int .i64 n3, .string s3]] w fun e w' => e = .returned (.bool true) ∧ Below w.heap.size w w' := by
  have b1 := balloc (balloc (balloc (b0 w) (.cells #[.int .i64 k, .int .i64 n, .string s] 23)) (.cells #[.int .i64 k2, .int .i64 n2, .string s2] 23)) (.cells #[.int .i64 k3, .int .i64 n3, .string s3] 23)
  have V1 := ((Vx.new w k n s 23).past (.cells #[.int .i64 k2, .int .i64 n2, .string s2] 23)).past (.cells #[.int .i64 k3, .int .i64 n3, .string s3] 23)
  have V2 := (Vx.new (w.alloc (.cells #[.int .i64 k, .int .i64 n, .string s] 23)) k2 n2 s2 23).past (.cells #[.int .i64 k3, .int .i64 n3, .string s3] 23)
  have V3 := Vx.new ((w.alloc (.cells #[.int .i64 k, .int .i64 n, .string s] 23)).alloc (.cells #[.int .i64 k2, .int .i64 n2, .string s2] 23)) k3 n3 s3 23
  rw [alloc_size] at V2
  rw [alloc_size, alloc_size] at V3
  have C := example_any _ (T.stays b1)
  have S1 := Lib.hid (fun W => short_any k n s W)
  have S2 := Lib.hid (fun W => short_any k2 n2 s2 W)
  have S3 := Lib.hid (fun W => short_any k3 n3 s3 W)
  have K1 := Lib.hid (fun W => compare_any k n s k2 n2 s2 W)
  have K2 := Lib.hid (fun W => compare_any k2 n2 s2 k n s W)
  have K3 := Lib.hid (fun W => compare_any k n s k n s W)
  have K4 := Lib.hid (fun W => compare_any k2 n2 s2 k3 n3 s3 W)
  have K5 := Lib.hid (fun W => compare_any k n s k3 n3 s3 W)
  have K6 := Lib.hid (fun W => rcompare_any k n s k2 n2 s2 W)
  have f1 : cV ⟨k2, n2, s2⟩ ⟨k, n, s⟩ = - cV ⟨k, n, s⟩ ⟨k2, n2, s2⟩ := good_cV.neg _ _
  have f2 : cV ⟨k, n, s⟩ ⟨k, n, s⟩ = 0 := (good_cV.eq _ _).2 rfl
  have f3 := good_cV.tr ⟨k, n, s⟩ ⟨k2, n2, s2⟩ ⟨k3, n3, s3⟩
  have f4 := cV_range ⟨k, n, s⟩ ⟨k2, n2, s2⟩
  have f5 := cV_range ⟨k2, n2, s2⟩ ⟨k3, n3, s3⟩
  have f6 := cV_range ⟨k, n, s⟩ ⟨k3, n3, s3⟩
  have f7 : (cV ⟨k, n, s⟩ ⟨k2, n2, s2⟩ == 0) = (k == k2 && (n == n2 && s.toList == s2.toList)) := by
    rw [← va_eq]
    by_cases h : (⟨k, n, s⟩ : Va) = ⟨k2, n2, s2⟩
    · rw [decide_eq_true h, (good_cV.eq _ _).2 h]; rfl
    · rw [decide_eq_false h]
      exact beq_eq_false_iff_ne.2 (fun e => h ((good_cV.eq _ _).1 e))
  rw [f1] at K2
  rw [f2] at K3
  generalize cV ⟨k, n, s⟩ ⟨k2, n2, s2⟩ = x at *
  generalize cV ⟨k2, n2, s2⟩ ⟨k3, n3, s3⟩ = y at *
  generalize cV ⟨k, n, s⟩ ⟨k3, n3, s3⟩ = z at *
  clear f1 f2
  generalize decide (s.size ≤ 300) = q1 at S1
  generalize decide (s2.size ≤ 300) = q2 at S2
  generalize decide (s3.size ≤ 300) = q3 at S3
  replace f3 := Lib.hid f3
  replace f7 := Lib.hid f7
  go_enter Tryz.func4, Tryz.ntmps4
  go_wp2_with fail
  refine C.mono ?_
  rintro e w1 ⟨rfl, b⟩
  replace V1 := V1.keeps b
  replace V2 := V2.keeps b
  replace V3 := V3.keeps b
  replace b1 := bnext b1 b
  clear b C
  obtain ⟨c0, c1, c2⟩ := id V1
  obtain ⟨d0, d1, d2⟩ := id V2
  obtain ⟨e0, e1, e2⟩ := id V3
  go_wp2_with fail
  refine (S1.out _).mono ?_
  rintro e w2 ⟨rfl, b⟩
  replace V1 := V1.keeps b
  replace V2 := V2.keeps b
  replace V3 := V3.keeps b
  replace b1 := bnext b1 b
  clear b c0 c1 c2 d0 d1 d2 e0 e1 e2
  obtain ⟨c0, c1, c2⟩ := id V1
  obtain ⟨d0, d1, d2⟩ := id V2
  obtain ⟨e0, e1, e2⟩ := id V3
  cases q1; · go_wp2_with fail; go_ret; exact ⟨rfl, b1⟩
  go_wp2_with fail
  refine (S2.out _).mono ?_
  rintro e w3 ⟨rfl, b⟩
  replace V1 := V1.keeps b
  replace V2 := V2.keeps b
  replace V3 := V3.keeps b
  replace b1 := bnext b1 b
  clear b c0 c1 c2 d0 d1 d2 e0 e1 e2
  obtain ⟨c0, c1, c2⟩ := id V1
  obtain ⟨d0, d1, d2⟩ := id V2
  obtain ⟨e0, e1, e2⟩ := id V3
  cases q2; · go_wp2_with fail; go_ret; exact ⟨rfl, b1⟩
  go_wp2_with fail
  refine (S3.out _).mono ?_
  rintro e w4 ⟨rfl, b⟩
  replace V1 := V1.keeps b
  replace V2 := V2.keeps b
  replace V3 := V3.keeps b
  replace b1 := bnext b1 b
  clear b c0 c1 c2 d0 d1 d2 e0 e1 e2
  obtain ⟨c0, c1, c2⟩ := id V1
  obtain ⟨d0, d1, d2⟩ := id V2
  obtain ⟨e0, e1, e2⟩ := id V3
  cases q3; · go_wp2_with fail; go_ret; exact ⟨rfl, b1⟩
  go_wp2_with fail
  refine (K1.out _).mono ?_
  rintro e w5 ⟨rfl, b⟩
  replace V1 := V1.keeps b
  replace V2 := V2.keeps b
  replace V3 := V3.keeps b
  replace b1 := bnext b1 b
  clear b c0 c1 c2 d0 d1 d2 e0 e1 e2
  obtain ⟨c0, c1, c2⟩ := id V1
  obtain ⟨d0, d1, d2⟩ := id V2
  obtain ⟨e0, e1, e2⟩ := id V3
  go_wp2_with fail
  have hc : (x = 0 ∧ k = k2 ∧ n = n2 ∧ s = s2) ∨ (¬ x = 0 ∧ ¬ k = k2) ∨ (¬ x = 0 ∧ k = k2 ∧ ¬ n = n2) ∨ (¬ x = 0 ∧ k = k2 ∧ n = n2 ∧ ¬ s.toList = s2.toList) := by
    have f8 := f7.out
    by_cases h1 : k = k2
    · by_cases h2 : n = n2
      · by_cases h3 : s.toList = s2.toList
        · exact .inl ⟨by simpa [h1, h2, h3] using f8, h1, h2, toList_inj h3⟩
        · exact .inr (.inr (.inr ⟨beq_eq_false_iff_ne.1 (f8.trans (by rw [beq_eq_false_iff_ne.2 h3, Bool.and_false, Bool.and_false])), h1, h2, h3⟩))
      · exact .inr (.inr (.inl ⟨beq_eq_false_iff_ne.1 (f8.trans (by rw [beq_eq_false_iff_ne.2 h2, Bool.false_and, Bool.and_false])), h1, h2⟩))
    · exact .inr (.inl ⟨beq_eq_false_iff_ne.1 (f8.trans (by rw [beq_eq_false_iff_ne.2 h1, Bool.false_and])), h1⟩)
  replace hc := Lib.hid hc
  refine (K6.out _).mono ?_
  rintro e w6 ⟨rfl, b⟩
  replace V1 := V1.keeps b
  replace V2 := V2.keeps b
  replace V3 := V3.keeps b
  replace b1 := bnext b1 b
  clear b c0 c1 c2 d0 d1 d2 e0 e1 e2
  obtain ⟨c0, c1, c2⟩ := id V1
  obtain ⟨d0, d1, d2⟩ := id V2
  obtain ⟨e0, e1, e2⟩ := id V3
  clear f7
  rcases hc.out with ⟨g1, rfl, rfl, rfl⟩ | ⟨g1, g2⟩ | ⟨g1, rfl, g2⟩ | ⟨g1, rfl, rfl, g2⟩ <;> clear hc
  go_wp2_with fail
  all_goals
    refine (K2.out _).mono ?_
    rintro e w7 ⟨rfl, b⟩
    replace V1 := V1.keeps b
    replace V2 := V2.keeps b
    replace V3 := V3.keeps b
    replace b1 := bnext b1 b
    clear b c0 c1 c2 d0 d1 d2 e0 e1 e2
    obtain ⟨c0, c1, c2⟩ := id V1
    obtain ⟨d0, d1, d2⟩ := id V2
    obtain ⟨e0, e1, e2⟩ := id V3
    go_wp2_with fail
    refine (K3.out _).mono ?_
    rintro e w8 ⟨rfl, b⟩
    replace V1 := V1.keeps b
    replace V2 := V2.keeps b
    replace V3 := V3.keeps b
    replace b1 := bnext b1 b
    clear b c0 c1 c2 d0 d1 d2 e0 e1 e2
    obtain ⟨c0, c1, c2⟩ := id V1
    obtain ⟨d0, d1, d2⟩ := id V2
    obtain ⟨e0, e1, e2⟩ := id V3
    replace f3 := f3.out
    go_wp2_with fail
  all_goals first
    | (go_ret
       exact ⟨rfl, b1⟩)
    | (refine (K4.out _).mono ?_
       rintro e w9 ⟨rfl, b⟩
       replace V1 := V1.keeps b
       replace V2 := V2.keeps b
       replace V3 := V3.keeps b
       replace b1 := bnext b1 b
       clear b c0 c1 c2 d0 d1 d2 e0 e1 e2
       obtain ⟨c0, c1, c2⟩ := id V1
       obtain ⟨d0, d1, d2⟩ := id V2
       obtain ⟨e0, e1, e2⟩ := id V3
       go_wp2_with fail)
  all_goals first
    | (go_ret
       exact ⟨rfl, b1⟩)
    | (refine (K5.out _).mono ?_
       rintro e w10 ⟨rfl, b⟩
       replace V1 := V1.keeps b
       replace V2 := V2.keeps b
       replace V3 := V3.keeps b
       replace b1 := bnext b1 b
       clear b c0 c1 c2 d0 d1 d2 e0 e1 e2
       obtain ⟨c0, c1, c2⟩ := id V1
       obtain ⟨d0, d1, d2⟩ := id V2
       obtain ⟨e0, e1, e2⟩ := id V3
       have fz : z ≤ 0 := f3 (by omega) (by omega)
       go_wp2_with fail
       go_ret
       exact ⟨rfl, b1⟩)
end Go.Proofs.YtmogkinaegdioaaGreatDoor

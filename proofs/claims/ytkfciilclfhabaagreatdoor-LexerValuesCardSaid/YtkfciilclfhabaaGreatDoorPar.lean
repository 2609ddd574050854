/-
  values.Parse: for every string.
-/
import Derived.Test.YtkfciilclfhabaaGreatDoorPsv
namespace Go.Proofs.YtkfciilclfhabaaGreatDoor
open Go.RowKit dec

theorem cd_size (l : List UInt8) : (cdP l).s.size ≤ l.length := by
  have h0 : (.empty : ByteArray).size ≤ l.length := by show 0 ≤ _; omega
  unfold cdP
  (repeat' split) <;> try exact h0
  · show (Lib.trimSuffix (l.drop 1) [34]).toArray.size ≤ _
    rw [List.size_toArray]
    unfold Lib.trimSuffix
    split
    · rw [List.length_take, List.length_drop]; omega
    · rw [List.length_drop]; omega
  · show (l.drop 1).toArray.size ≤ _
    rw [List.size_toArray, List.length_drop]; omega
theorem mk_toList (l : List UInt8) : (⟨l.toArray⟩ : ByteArray).toList = l := by rw [ByteArray.toList_eq]
theorem parseV_any (s : ByteArray) (hs : s.size ≤ 1000) (w : World) (T : Tabs w) : Calls Tryz.prog 21 #[.string s] w fun e w' => ∃ (v : Va) (c : Int), e = .returned (.tuple #[.agg #[.int .i64 v.k, .int .i64 v.n, .string v.s], .int .i64 c]) ∧ (v, c) = psP s.data.toList ∧ Below w.heap.size w w' := by
  have bl := balloc (b0 w) (.cells #[.int .i64 0, .int .i64 0, .string ⟨#[]⟩] 42)
  have V0 := Vw.new w 0 0 ⟨#[]⟩ 42
  have T0 := T.stays bl
  have hl : s.toList = s.data.toList := ByteArray.toList_eq s
  have hsz := cd_size s.data.toList
  rw [← Lib.size_eq] at hsz
  have C := Lib.hid (cand_any s (by omega) (w.alloc (.cells #[.int .i64 0, .int .i64 0, .string ⟨#[]⟩] 42)) T0)
  have E : Hid (psP s.data.toList = if fm (cdP s.data.toList) = s.data.toList then (cdP s.data.toList, 0) else (⟨0, 0, .empty⟩, 3)) := rfl
  have BL := Lib.hid bl
  clear bl
  obtain ⟨v, hv⟩ : ∃ v, v = cdP s.data.toList := ⟨_, rfl⟩
  rw [← hv] at C E hsz
  clear hv
  obtain ⟨k, n, x⟩ := v
  have F := Lib.hid (fun w T => formatV_any k n x (by simp only at hsz; omega) w T)
  clear hsz
  go_enter Tryz.func21, Tryz.ntmps21
  go_wp2_with fail
  refine (C.out).mono ?_
  rintro e w1 ⟨v, rfl, rfl, b1⟩
  obtain ⟨⟨c0, c1, c2⟩, f0, f1, f2⟩ := V0.keeps b1
  have V1 := (V0.keeps b1).put k n x
  clear V0 T0 C
  replace b1 := BL.out.trans (b1.mono (by simp))
  have b2 := put_below (b := w.heap.size) b1 (Nat.le_refl _) (.int .i64 k) (.int .i64 n) (.string x)
  simp only
  go_wp2_with fail
  clear c0 c1 c2 f0 f1 f2 b1
  generalize ((w1.setCell ⟨w.heap.size, 0, none⟩ (.int .i64 k)).setCell ⟨w.heap.size, 1, none⟩ (.int .i64 n)).setCell ⟨w.heap.size, 2, none⟩ (.string x) = w2 at *
  refine (F.out _ (T.stays b2)).mono ?_
  rintro e w3 ⟨rfl, b3⟩
  have V3 := V1.keeps b3
  obtain ⟨⟨c0, c1, c2⟩, f0, f1, f2⟩ := V3
  have V4 := V1.keeps b3
  replace b3 := bnext b2 b3
  clear b2 V1 F
  by_cases hf : fm ⟨k, n, x⟩ = s.data.toList
  · have hc : (fm ⟨k, n, x⟩ == s.toList) = true := by rw [hl, beq_iff_eq]; exact hf
    have E2 : Hid (psP s.data.toList = (⟨k, n, x⟩, 0)) := by unfold Hid; rw [E.out, if_pos hf]
    clear hf hl E
    go_wp2_with fail
    obtain ⟨d0, d1, d2⟩ := (V4.put k n x).val
    simp [bodyPost, results, Tryz.results21, go_sem, d0, d1, d2]
    exact ⟨⟨k, n, x⟩, 0, ⟨⟨rfl, rfl, rfl⟩, rfl⟩, E2.out.symm, put_below b3 (Nat.le_refl _) _ _ _⟩
  · have hc : (fm ⟨k, n, x⟩ == s.toList) = false := by rw [hl, beq_eq_false_iff_ne]; exact hf
    have E2 : Hid (psP s.data.toList = (⟨0, 0, .empty⟩, 3)) := by unfold Hid; rw [E.out, if_neg hf]
    clear hf hl E
    go_wp2_with fail
    obtain ⟨d0, d1, d2⟩ := (V4.put 0 0 ⟨#[]⟩).val
    simp [bodyPost, results, Tryz.results21, go_sem, d0, d1, d2]
    exact ⟨⟨0, 0, .empty⟩, 3, ⟨⟨rfl, rfl, rfl⟩, rfl⟩, E2.out.symm, put_below b3 (Nat.le_refl _) _ _ _⟩
end Go.Proofs.YtkfciilclfhabaaGreatDoor

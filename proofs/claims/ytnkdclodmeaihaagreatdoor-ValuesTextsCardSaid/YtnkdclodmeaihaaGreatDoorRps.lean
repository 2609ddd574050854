/-
  asofref05.Parse: for every string.
-/
import Derived.Test.YtnkdclodmeaihaaGreatDoorGue
import Derived.Test.YtnkdclodmeaihaaGreatDoorRfv
namespace Go.Proofs.YtnkdclodmeaihaaGreatDoor
open Go.RowKit dec

theorem gs_size (l : List UInt8) : (gsP l).s.size ≤ l.length := by
  have h0 : (.empty : ByteArray).size ≤ l.length := by show 0 ≤ _; omega
  unfold gsP whP
  (repeat' split) <;> try exact h0
  · show ((l.drop 1).take (l.length - 2)).toArray.size ≤ _
    rw [List.size_toArray, List.length_take, List.length_drop]; omega
  · show (l.drop 1).toArray.size ≤ _
    rw [List.size_toArray, List.length_drop]; omega
theorem rps_any (s : ByteArray) (hs : s.size ≤ 1000) (w : World) : Calls Tryz.prog 8 #[.string s] w fun e w' => ∃ (v : Va) (c : Int), e = .returned (.tuple #[.agg #[.int .i64 v.k, .int .i64 v.n, .string v.s], .int .i64 c]) ∧ (v, c) = psP s.data.toList ∧ Below w.heap.size w w' := by
  rw [← rs_ps]
  have bl := balloc (b0 w) (.cells #[.int .i64 0, .int .i64 0, .string ⟨#[]⟩] 23)
  have V0 := Vw.new w 0 0 ⟨#[]⟩ 23
  have hl : s.toList = s.data.toList := ByteArray.toList_eq s
  have hsz := gs_size s.data.toList
  rw [← Lib.size_eq] at hsz
  obtain ⟨v, hv⟩ : ∃ v, v = gsP s.data.toList := ⟨_, rfl⟩
  have C := Lib.hid (fun w => guess_any s (by omega) w v hv.symm)
  have E : Hid (rsP s.data.toList = if ok (gsP s.data.toList) = true ∧ fm (gsP s.data.toList) = s.data.toList then (gsP s.data.toList, 0) else (⟨0, 0, .empty⟩, 3)) := rfl
  have BL := Lib.hid bl
  clear bl
  rw [← hv] at E hsz
  clear hv
  obtain ⟨k, n, x⟩ := v
  have F := Lib.hid (fun w => rformat_any k n x (by simp only at hsz; omega) w)
  have D := Lib.hid (fun w => valid_any k n x (by simp only at hsz; omega) w)
  clear hsz
  go_enter Tryz.func8, Tryz.ntmps8
  go_wp2_with fail
  refine (C.out _).mono ?_
  rintro e w1 ⟨rfl, b1⟩
  have V1 := V0.keeps b1
  have hlt := V1.val.lt
  replace b1 := BL.out.trans (b1.mono (by simp))
  have U2 := Vx.new w1 k n x 23
  have V2 := V1.keeps (balloc (b0 w1) (.cells #[.int .i64 k, .int .i64 n, .string x] 23))
  have b2 := balloc b1 (.cells #[.int .i64 k, .int .i64 n, .string x] 23)
  clear V0 C V1 b1
  obtain ⟨c0, c1, c2⟩ := id U2
  simp only
  go_wp2_with fail
  refine (D.out _).mono ?_
  rintro e w3 ⟨rfl, b3⟩
  replace U2 := U2.keeps b3
  replace V2 := V2.keeps b3
  replace b2 := bnext b2 b3
  clear b3 c0 c1 c2 D
  cases hk : ok ⟨k, n, x⟩
  · have E2 : Hid (rsP s.data.toList = (⟨0, 0, .empty⟩, 3)) := by unfold Hid; rw [E.out, hk, if_neg (fun h => absurd h.1 (by decide))]
    clear hk E hl
    obtain ⟨⟨c0, c1, c2⟩, f0, f1, f2⟩ := id V2
    go_wp2_with fail
    obtain ⟨d0, d1, d2⟩ := (V2.put 0 0 ⟨#[]⟩).val
    simp [bodyPost, results, Tryz.results8, go_sem, d0, d1, d2]
    exact ⟨⟨0, 0, .empty⟩, 3, ⟨⟨rfl, rfl, rfl⟩, rfl⟩, E2.out.symm, put_below b2 (Nat.le_refl _) _ _ _⟩
  · obtain ⟨c0, c1, c2⟩ := id U2
    have HK := Lib.hid hk
    clear hk
    go_wp2_with fail
    refine (F.out _).mono ?_
    rintro e w4 ⟨rfl, b4⟩
    replace U2 := U2.keeps b4
    replace V2 := V2.keeps b4
    replace b2 := bnext b2 b4
    clear b4 c0 c1 c2 F
    obtain ⟨c0, c1, c2⟩ := id U2
    obtain ⟨⟨d0, d1, d2⟩, f0, f1, f2⟩ := id V2
    by_cases hf : fm ⟨k, n, x⟩ = s.data.toList
    · have hc : (fm ⟨k, n, x⟩ == s.toList) = true := by rw [hl, beq_iff_eq]; exact hf
      have E2 : Hid (rsP s.data.toList = (⟨k, n, x⟩, 0)) := by unfold Hid; rw [E.out, if_pos ⟨HK.out, hf⟩]
      clear hf hl E HK
      go_wp2_with fail
      obtain ⟨d0, d1, d2⟩ := (V2.put k n x).val
      simp [bodyPost, results, Tryz.results8, go_sem, d0, d1, d2]
      exact ⟨⟨k, n, x⟩, 0, ⟨⟨rfl, rfl, rfl⟩, rfl⟩, E2.out.symm, put_below b2 (Nat.le_refl _) _ _ _⟩
    · have hc : (fm ⟨k, n, x⟩ == s.toList) = false := by rw [hl, beq_eq_false_iff_ne]; exact hf
      have E2 : Hid (rsP s.data.toList = (⟨0, 0, .empty⟩, 3)) := by unfold Hid; rw [E.out, if_neg (fun h => hf h.2)]
      clear hf hl E HK
      go_wp2_with fail
      obtain ⟨d0, d1, d2⟩ := (V2.put 0 0 ⟨#[]⟩).val
      simp [bodyPost, results, Tryz.results8, go_sem, d0, d1, d2]
      exact ⟨⟨0, 0, .empty⟩, 3, ⟨⟨rfl, rfl, rfl⟩, rfl⟩, E2.out.symm, put_below b2 (Nat.le_refl _) _ _ _⟩
end Go.Proofs.YtnkdclodmeaihaaGreatDoor

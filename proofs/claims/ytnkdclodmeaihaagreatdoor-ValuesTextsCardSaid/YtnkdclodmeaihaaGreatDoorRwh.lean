/-
  asofref05.whole: for every string.
-/
import Derived.Test.YtnkdclodmeaihaaGreatDoorRpp
import Derived.Test.YtnkdclodmeaihaaGreatDoorVw
namespace Go.Proofs.YtnkdclodmeaihaaGreatDoor
open Go.RowKit dec

theorem whl_drop (s : ByteArray) {j : Nat} (hj : j < s.size) (a : Nat) : whl (s.data.toList.drop j) a = if isD s[j] = true ∧ a ≤ 115292150460684697 then whl (s.data.toList.drop (j + 1)) (10 * a + (s[j].toNat - 48)) else none := by
  have h : j < s.data.toList.length := by rw [← Lib.size_eq]; exact hj
  rw [List.drop_eq_getElem_cons h]
  rfl
theorem whl_end (s : ByteArray) {j : Nat} (hj : s.size ≤ j) (a : Nat) : whl (s.data.toList.drop j) a = some a := by
  rw [List.drop_eq_nil_of_le (by rw [← Lib.size_eq]; exact hj)]
  rfl
set_option maxRecDepth 20000 in
set_option maxHeartbeats 2000000 in
theorem whole_0 (s : ByteArray) (hs : s.size ≤ 1048576) (w : World) (h0 : 0 < s.size) (h45 : s[0].toNat ≠ 45) (ha : atP s.data.toList = 0) (v : Va) (hV : whP s.data.toList = v) :
    Calls Tryz.prog 51 #[.string s] w fun e w' => e = .returned (.agg #[.int .i64 v.k, .int .i64 v.n, .string v.s]) ∧ Below w.heap.size w w' := by
  have hne : ¬ s.toList = [] := by
    intro e
    have := congrArg List.length e
    rw [ByteArray.toList_eq, ← Lib.size_eq, List.length_nil] at this
    omega
  have hq1 : (s.toList == []) = false := beq_eq_false_iff_ne.2 hne
  have hq2 : (s.toList != []) = true := by rw [bne, hq1]; rfl
  have t45 : (((s[0].toNat : Nat) : Int) == 45) = false := by rw [beq_eq_false_iff_ne]; omega
  have hz : ¬ s.size = 0 := by omega
  have z0 : ((0 : Int) == (s.size : Int)) = false := by rw [beq_eq_false_iff_ne]; omega
  have hW : whP s.data.toList = match whl (s.data.toList.drop 0) 0 with
      | none => ⟨0, 0, .empty⟩
      | some x => ⟨2, (x : Int), .empty⟩ := by
    unfold whP
    rw [ha, ← Lib.size_eq, if_neg (by omega), head_at s h0]
    have hh := show ¬ some s[0] = some (45 : UInt8) from fun e => h45 (by injection e with e; rw [e]; rfl)
    cases whl (s.data.toList.drop 0) 0 with
    | none => rfl
    | some x =>
      show (⟨2, if some s[0] = some 45 then -(x : Int) else x, .empty⟩ : Va) = _
      rw [if_neg hh]
  rw [hV] at hW
  have HW := Lib.hid hW
  clear hW hV
  have V := Vw.new w 0 0 ⟨#[]⟩ 23
  have b := balloc (b0 w) (.cells #[.int .i64 0, .int .i64 0, .string ⟨#[]⟩] 23)
  have V0 := Lib.hid V
  have B0 := Lib.hid b
  clear V b
  go_enter Tryz.func51, Tryz.ntmps51
  go_wp2_with fail
  go_loopw [4, 5] (fun vx vi wr => ∃ (j x : Nat), 0 ≤ j ∧ j ≤ s.size ∧ x ≤ 1152921504606846979 ∧ vx = .int .i64 (x : Nat) ∧ vi = .int .i64 (j : Nat) ∧ Hid (whl (s.data.toList.drop j) x = whl (s.data.toList.drop 0) 0) ∧ Vw wr w.heap.size 0 0 ⟨#[]⟩ ∧ Below w.heap.size w wr) (fun _ vi _ => s.size - (intOf vi).toNat)
  case atStart => exact ⟨0, 0, by omega, by omega, by omega, rfl, rfl, rfl, V0.out, B0.out⟩
  case round =>
    obtain ⟨j, x, hj1, hj, hx, rfl, rfl, hd, V, b⟩ := hrel
    obtain ⟨⟨c0, c1, c2⟩, f0, f1, f2⟩ := id V
    clear V0 B0
    by_cases hc : j < s.size
    · have hst := whl_drop s hc x
      rw [hd.out] at hst
      by_cases hg : isD s[j] = true ∧ x ≤ 115292150460684697
      · rw [if_pos hg] at hst
        obtain ⟨hg1, hg2⟩ := hg
        have hg3 := (isD_iff _).1 hg1
        have HD := Lib.hid hst.symm
        have u1 : ¬ s[j].toNat < 48 := by omega
        have u2 : ¬ 57 < s[j].toNat := by omega
        have u3 : ¬ 115292150460684697 < x := by omega
        have hb : 10 * x + (s[j].toNat - 48) ≤ 1152921504606846979 := by omega
        have hv : ((10 * x + (s[j].toNat - 48) : Nat) : Int) = 10 * (x : Int) + ((s[j].toNat : Int) - 48) := by omega
        replace hv := Lib.hid hv
        clear hst hd hg1
        go_wp2_with fail
        go_roundw
        case rel => first | exact ⟨j + 1, 10 * x + (s[j].toNat - 48), by omega, by omega, hb, congrArg (Value.int .i64) hv.out.symm, (show Value.int .i64 ((j : Int) + 1) = .int .i64 ((j + 1 : Nat) : Int) from rfl), HD, V, b⟩ | ((repeat apply Exists.intro); exact ⟨⟨j + 1, 10 * x + (s[j].toNat - 48), by omega, by omega, hb, congrArg (Value.int .i64) hv.out.symm, (show Value.int .i64 ((j : Int) + 1) = .int .i64 ((j + 1 : Nat) : Int) from rfl), HD, V, b⟩, rfl⟩)
        case measure => simp [intOf]; omega
      · rw [if_neg hg] at hst
        have hW := HW.out
        rw [hst] at hW
        subst hW
        have hcs : s[j].toNat < 48 ∨ (¬ s[j].toNat < 48 ∧ 57 < s[j].toNat) ∨ (¬ s[j].toNat < 48 ∧ ¬ 57 < s[j].toNat ∧ 115292150460684697 < x) := by
          by_cases p1 : s[j].toNat < 48
          · exact .inl p1
          · by_cases p2 : 57 < s[j].toNat
            · exact .inr (.inl ⟨p1, p2⟩)
            · exact .inr (.inr ⟨p1, p2, by
                by_cases p3 : 115292150460684697 < x
                · exact p3
                · exact absurd ⟨(isD_iff _).2 (by omega), by omega⟩ hg⟩)
        clear hst hd hg HW
        rcases hcs with u1 | ⟨u1, u2⟩ | ⟨u1, u2, u3⟩
        all_goals
          go_wp2_with fail
          obtain ⟨r0, r1, r2⟩ := (V.put 0 0 ⟨#[]⟩).val
          simp [bodyPost, results, Tryz.results51, go_sem, r0, r1, r2]
          first | exact ⟨rfl, put_below b (Nat.le_refl _) _ _ _⟩ | exact put_below b (Nat.le_refl _) _ _ _
    · have hst := whl_end s (j := j) (by omega) x
      rw [hd.out] at hst
      have hW := HW.out
      rw [hst] at hW
      subst hW
      clear hst hd HW
      go_wp2_with fail
      obtain ⟨r0, r1, r2⟩ := (V.put 2 (x : Nat) ⟨#[]⟩).val
      simp [bodyPost, results, Tryz.results51, go_sem, r0, r1, r2]
      first | exact ⟨rfl, put_below b (Nat.le_refl _) _ _ _⟩ | exact put_below b (Nat.le_refl _) _ _ _
set_option maxRecDepth 20000 in
set_option maxHeartbeats 2000000 in
theorem whole_1 (s : ByteArray) (hs : s.size ≤ 1048576) (w : World) (h0 : 0 < s.size) (h45 : s[0].toNat = 45) (ha : atP s.data.toList = 1) (v : Va) (hV : whP s.data.toList = v) :
    Calls Tryz.prog 51 #[.string s] w fun e w' => e = .returned (.agg #[.int .i64 v.k, .int .i64 v.n, .string v.s]) ∧ Below w.heap.size w w' := by
  have hne : ¬ s.toList = [] := by
    intro e
    have := congrArg List.length e
    rw [ByteArray.toList_eq, ← Lib.size_eq, List.length_nil] at this
    omega
  have hq1 : (s.toList == []) = false := beq_eq_false_iff_ne.2 hne
  have hq2 : (s.toList != []) = true := by rw [bne, hq1]; rfl
  by_cases hz : s.size = 1
  · have hv : v = ⟨0, 0, .empty⟩ := by rw [← hV]; unfold whP; rw [ha, ← Lib.size_eq, if_pos (by omega)]
    subst hv
    have V := Vw.new w 0 0 ⟨#[]⟩ 23
    have b := balloc (b0 w) (.cells #[.int .i64 0, .int .i64 0, .string ⟨#[]⟩] 23)
    clear hV
    go_enter Tryz.func51, Tryz.ntmps51
    go_wp2_with fail
    simp [bodyPost, results, Tryz.results51, go_sem]
    exact ⟨rfl, b⟩
  have z1 : ((1 : Int) == (s.size : Int)) = false := by rw [beq_eq_false_iff_ne]; omega
  have hW : whP s.data.toList = match whl (s.data.toList.drop 1) 0 with
      | none => ⟨0, 0, .empty⟩
      | some x => ⟨2, -(x : Int), .empty⟩ := by
    unfold whP
    rw [ha, ← Lib.size_eq, if_neg (by omega), head_at s h0]
    have hh := congrArg some (UInt8.toNat_inj.1 (show s[0].toNat = (45 : UInt8).toNat from h45))
    cases whl (s.data.toList.drop 1) 0 with
    | none => rfl
    | some x =>
      show (⟨2, if some s[0] = some 45 then -(x : Int) else x, .empty⟩ : Va) = _
      rw [if_pos hh]
  rw [hV] at hW
  have HW := Lib.hid hW
  clear hW hV
  have V := Vw.new w 0 0 ⟨#[]⟩ 23
  have b := balloc (b0 w) (.cells #[.int .i64 0, .int .i64 0, .string ⟨#[]⟩] 23)
  have V0 := Lib.hid V
  have B0 := Lib.hid b
  clear V b
  go_enter Tryz.func51, Tryz.ntmps51
  go_wp2_with fail
  go_loopw [4, 5] (fun vx vi wr => ∃ (j x : Nat), 1 ≤ j ∧ j ≤ s.size ∧ x ≤ 1152921504606846979 ∧ vx = .int .i64 (x : Nat) ∧ vi = .int .i64 (j : Nat) ∧ Hid (whl (s.data.toList.drop j) x = whl (s.data.toList.drop 1) 0) ∧ Vw wr w.heap.size 0 0 ⟨#[]⟩ ∧ Below w.heap.size w wr) (fun _ vi _ => s.size - (intOf vi).toNat)
  case atStart => exact ⟨1, 0, by omega, by omega, by omega, rfl, rfl, rfl, V0.out, B0.out⟩
  case round =>
    obtain ⟨j, x, hj1, hj, hx, rfl, rfl, hd, V, b⟩ := hrel
    obtain ⟨⟨c0, c1, c2⟩, f0, f1, f2⟩ := id V
    clear V0 B0
    by_cases hc : j < s.size
    · have hst := whl_drop s hc x
      rw [hd.out] at hst
      by_cases hg : isD s[j] = true ∧ x ≤ 115292150460684697
      · rw [if_pos hg] at hst
        obtain ⟨hg1, hg2⟩ := hg
        have hg3 := (isD_iff _).1 hg1
        have HD := Lib.hid hst.symm
        have u1 : ¬ s[j].toNat < 48 := by omega
        have u2 : ¬ 57 < s[j].toNat := by omega
        have u3 : ¬ 115292150460684697 < x := by omega
        have hb : 10 * x + (s[j].toNat - 48) ≤ 1152921504606846979 := by omega
        have hv : ((10 * x + (s[j].toNat - 48) : Nat) : Int) = 10 * (x : Int) + ((s[j].toNat : Int) - 48) := by omega
        replace hv := Lib.hid hv
        clear hst hd hg1
        go_wp2_with fail
        go_roundw
        case rel => first | exact ⟨j + 1, 10 * x + (s[j].toNat - 48), by omega, by omega, hb, congrArg (Value.int .i64) hv.out.symm, (show Value.int .i64 ((j : Int) + 1) = .int .i64 ((j + 1 : Nat) : Int) from rfl), HD, V, b⟩ | ((repeat apply Exists.intro); exact ⟨⟨j + 1, 10 * x + (s[j].toNat - 48), by omega, by omega, hb, congrArg (Value.int .i64) hv.out.symm, (show Value.int .i64 ((j : Int) + 1) = .int .i64 ((j + 1 : Nat) : Int) from rfl), HD, V, b⟩, rfl⟩)
        case measure => simp [intOf]; omega
      · rw [if_neg hg] at hst
        have hW := HW.out
        rw [hst] at hW
        subst hW
        have hcs : s[j].toNat < 48 ∨ (¬ s[j].toNat < 48 ∧ 57 < s[j].toNat) ∨ (¬ s[j].toNat < 48 ∧ ¬ 57 < s[j].toNat ∧ 115292150460684697 < x) := by
          by_cases p1 : s[j].toNat < 48
          · exact .inl p1
          · by_cases p2 : 57 < s[j].toNat
            · exact .inr (.inl ⟨p1, p2⟩)
            · exact .inr (.inr ⟨p1, p2, by
                by_cases p3 : 115292150460684697 < x
                · exact p3
                · exact absurd ⟨(isD_iff _).2 (by omega), by omega⟩ hg⟩)
        clear hst hd hg HW
        rcases hcs with u1 | ⟨u1, u2⟩ | ⟨u1, u2, u3⟩
        all_goals
          go_wp2_with fail
          obtain ⟨r0, r1, r2⟩ := (V.put 0 0 ⟨#[]⟩).val
          simp [bodyPost, results, Tryz.results51, go_sem, r0, r1, r2]
          first | exact ⟨rfl, put_below b (Nat.le_refl _) _ _ _⟩ | exact put_below b (Nat.le_refl _) _ _ _
    · have hst := whl_end s (j := j) (by omega) x
      rw [hd.out] at hst
      have hW := HW.out
      rw [hst] at hW
      subst hW
      clear hst hd HW
      go_wp2_with fail
      obtain ⟨r0, r1, r2⟩ := (V.put 2 (-(x : Int)) ⟨#[]⟩).val
      simp [bodyPost, results, Tryz.results51, go_sem, r0, r1, r2]
      first | exact ⟨rfl, put_below b (Nat.le_refl _) _ _ _⟩ | exact put_below b (Nat.le_refl _) _ _ _
theorem whole_any (s : ByteArray) (hs : s.size ≤ 1048576) (w : World) (v : Va) (hV : whP s.data.toList = v) :
    Calls Tryz.prog 51 #[.string s] w fun e w' => e = .returned (.agg #[.int .i64 v.k, .int .i64 v.n, .string v.s]) ∧ Below w.heap.size w w' := by
  rcases at_cases s with ⟨h0, h45, ha⟩ | ⟨⟨h0, h45⟩, ha⟩ | ⟨h0, ha⟩
  · exact whole_1 s hs w h0 h45 ha v hV
  · exact whole_0 s hs w h0 h45 ha v hV
  · have hl : s.data.toList = [] := List.eq_nil_of_length_eq_zero (by rw [← Lib.size_eq]; omega)
    have hv : v = ⟨0, 0, .empty⟩ := by rw [← hV, hl]; rfl
    subst hv
    have hq1 : (s.toList == []) = true := by rw [ByteArray.toList_eq, hl]; rfl
    have hq2 : (s.toList != []) = false := by rw [bne, hq1]; rfl
    have b := balloc (b0 w) (.cells #[.int .i64 0, .int .i64 0, .string ⟨#[]⟩] 23)
    clear hV hl ha
    go_enter Tryz.func51, Tryz.ntmps51
    go_wp2_with fail
    simp [bodyPost, results, Tryz.results51, go_sem]
    exact ⟨rfl, b⟩
end Go.Proofs.YtnkdclodmeaihaaGreatDoor

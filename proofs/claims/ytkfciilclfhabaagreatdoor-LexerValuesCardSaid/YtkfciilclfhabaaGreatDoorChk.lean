/-
  values.Check and Has, and the reference's: for every value.
-/
import Derived.Test.YtkfciilclfhabaaGreatDoorVaA
namespace Go.Proofs.YtkfciilclfhabaaGreatDoor
open Go.RowKit dec

theorem emp (s : ByteArray) : s.toList.isEmpty = decide (s.size = 0) := by
  rw [ByteArray.toList_eq, Lib.size_eq s]
  cases s.data.toList <;> simp
theorem isFormed_any (k n : Int) (s : ByteArray) (w : World) : Calls Tryz.prog 66 #[.agg #[.int .i64 k, .int .i64 n, .string s]] w fun e w' => e = .returned (.bool (fmd ⟨k, n, s⟩)) ∧ Below w.heap.size w w' := by
  go_enter Tryz.func66, Tryz.ntmps66
  go_wp2
  all_goals go_ret
  all_goals refine ⟨congrArg (fun b => Ending.returned (Value.bool b)) ?_, balloc (b0 w) _⟩
  all_goals simp_all [fmd, emp]
  all_goals rfl
theorem isLimited_any (k n : Int) (s : ByteArray) (w : World) : Calls Tryz.prog 67 #[.agg #[.int .i64 k, .int .i64 n, .string s]] w fun e w' => e = .returned (.bool (lmt ⟨k, n, s⟩)) ∧ Below w.heap.size w w' := by
  go_enter Tryz.func67, Tryz.ntmps67
  go_wp2
  all_goals go_ret
  all_goals refine ⟨congrArg (fun b => Ending.returned (Value.bool b)) ?_, balloc (b0 w) _⟩
  all_goals simp_all [lmt, rg]
  all_goals omega
/-- The loop over the bytes: what is left says the same. -/
theorem pB_drop (lo : Nat) (l : List UInt8) {i : Nat} (hi : i < l.length) : pB lo (l.drop i) = (okB lo l[i] && pB lo (l.drop (i + 1))) := by
  rw [List.drop_eq_getElem_cons hi]
  rfl
theorem okB_no (lo : Nat) (c : UInt8) : okB lo c = false ↔ (c.toNat < lo ∨ 126 < c.toNat) ∨ c.toNat = 34 ∨ c.toNat = 92 := by
  unfold okB
  simp only [Bool.and_eq_false_iff, Bool.not_eq_false', decide_eq_false_iff_not, decide_eq_true_eq]
  omega
theorem okB_yes (lo : Nat) (c : UInt8) : okB lo c = true ↔ (lo ≤ c.toNat ∧ c.toNat ≤ 126) ∧ c.toNat ≠ 34 ∧ c.toNat ≠ 92 := by
  unfold okB
  simp only [Bool.and_eq_true, Bool.not_eq_true', decide_eq_false_iff_not, decide_eq_true_eq]
  omega
theorem pB_step (lo : Nat) (s : ByteArray) {i : Nat} (hi : i < s.size) : (okB lo s[i] = false → pB lo (s.data.toList.drop i) = false) ∧ (okB lo s[i] = true → pB lo (s.data.toList.drop i) = pB lo (s.data.toList.drop (i + 1))) := by
  have hi' : i < s.data.toList.length := by rw [← Lib.size_eq]; exact hi
  have e : s.data.toList[i] = s[i] := rfl
  rw [pB_drop lo _ hi', e]
  constructor
  · intro h; rw [h]; rfl
  · intro h; rw [h]; rfl
theorem pB_end (lo : Nat) (s : ByteArray) {i : Nat} (hi : ¬ i < s.size) : pB lo (s.data.toList.drop i) = true := by
  rw [List.drop_eq_nil_of_le (by rw [← Lib.size_eq]; omega)]
  rfl
theorem consists_any (lo : Nat) (s : ByteArray) (hs : s.size ≤ 9223372036854775806) (w : World) : Calls Tryz.prog 90 #[.int .u8 (lo : Nat), .string s] w fun e w' => e = .returned (.bool (pB lo s.data.toList)) ∧ w = w' := by
  go_enter Tryz.func90, Tryz.ntmps90
  go_wp2
  go_loopw [9] (fun x wr => ∃ i : Nat, x = .int .i64 (i : Nat) ∧ i ≤ s.size ∧ Hid (pB lo s.data.toList = pB lo (s.data.toList.drop i)) ∧ wr = w) (fun x _ => s.size - (intOf x).toNat)
  case atStart => exact ⟨0, rfl, by omega, rfl, rfl⟩
  case round =>
    obtain ⟨i, rfl, hi, hp, rfl⟩ := hrel
    go_wp2
    case roundEnd =>
      have h1 : i < s.size := by omega
      rename_i h2
      simp only [beq_eq_false_iff_ne] at h2
      refine ⟨⟨i + 1, rfl, by omega, ?_, trivial⟩, ?_⟩
      · exact Lib.hid (hp.out.trans ((pB_step lo s h1).2 ((okB_yes lo s[i]).2 (by omega))))
      · show s.size - ((i : Int) + 1).toNat < s.size - ((i : Nat) : Int).toNat
        omega
    all_goals go_ret
    all_goals refine ⟨congrArg (fun b => Ending.returned (Value.bool b)) (Eq.symm ?_), rfl⟩
    all_goals rw [hp.out]
    all_goals first
      | exact pB_end lo s (by omega)
      | exact (pB_step lo s (by omega)).1 ((okB_no lo _).2 (by omega))
      | (rename_i h2; simp only [beq_iff_eq] at h2; exact (pB_step lo s (by omega)).1 ((okB_no lo _).2 (by omega)))
/-- A value in memory: the block b holds it. -/
def Vx (w : World) (b : Nat) (k n : Int) (s : ByteArray) : Prop := w.cell? ⟨b, 0, none⟩ = some (.int .i64 k) ∧ w.cell? ⟨b, 1, none⟩ = some (.int .i64 n) ∧ w.cell? ⟨b, 2, none⟩ = some (.string s)
theorem Vx.new (w : World) (k n : Int) (s : ByteArray) (T : TypeId) : Vx (w.alloc (.cells #[.int .i64 k, .int .i64 n, .string s] T)) w.heap.size k n s := ⟨by simp [go_sem], by simp [go_sem], by simp [go_sem]⟩
theorem Vx.keeps {w w1 : World} {b : Nat} {k n : Int} {s : ByteArray} (h : Vx w b k n s) (hb : Below w.heap.size w w1) : Vx w1 b k n s := ⟨dec.keeps hb h.1, dec.keeps hb h.2.1, dec.keeps hb h.2.2⟩
theorem Vx.past {w : World} {b : Nat} {k n : Int} {s : ByteArray} (h : Vx w b k n s) (o : Obj) : Vx (w.alloc o) b k n s := h.keeps (balloc (b0 w) o)

theorem isSpelled_any (k n : Int) (s : ByteArray) (hs : s.size ≤ 1048576) (w : World) : Calls Tryz.prog 68 #[.agg #[.int .i64 k, .int .i64 n, .string s]] w fun e w' => e = .returned (.bool (spl ⟨k, n, s⟩)) ∧ Below w.heap.size w w' := by
  have C1 : Hid (∀ w, Calls Tryz.prog 90 #[.int .u8 32, .string s] w fun e w' => e = .returned (.bool (pB 32 s.data.toList)) ∧ w = w') := Lib.hid (fun w => consists_any 32 s (by omega) w)
  have C2 : Hid (∀ w, Calls Tryz.prog 90 #[.int .u8 33, .string s] w fun e w' => e = .returned (.bool (pB 33 s.data.toList)) ∧ w = w') := Lib.hid (fun w => consists_any 33 s (by omega) w)
  by_cases k4 : k = 4
  · subst k4
    clear C2
    go_enter Tryz.func68, Tryz.ntmps68
    go_wp2_with fail
    refine (C1.out _).mono ?_
    rintro e w' ⟨rfl, rfl⟩
    go_wp2
    go_ret
    refine ⟨congrArg (fun b => Ending.returned (Value.bool b)) ?_, balloc (b0 _) _⟩
    simp [spl]
  by_cases k5 : k = 5
  · subst k5
    clear C1
    by_cases hz : s.size = 0
    · have hz2 := size_zero hz
      subst hz2
      go_enter Tryz.func68, Tryz.ntmps68
      go_wp2_with fail
      go_ret
      refine ⟨congrArg (fun b => Ending.returned (Value.bool b)) ?_, balloc (b0 _) _⟩
      simp [spl]
    · have he : s.toList.isEmpty = false := by rw [emp]; exact decide_eq_false hz
      go_enter Tryz.func68, Tryz.ntmps68
      go_wp2_with fail
      refine (C2.out _).mono ?_
      rintro e w' ⟨rfl, rfl⟩
      go_wp2
      go_ret
      refine ⟨congrArg (fun b => Ending.returned (Value.bool b)) ?_, balloc (b0 _) _⟩
      simp_all [spl]
  clear C1 C2
  go_enter Tryz.func68, Tryz.ntmps68
  go_wp2_with fail
  go_ret
  refine ⟨congrArg (fun b => Ending.returned (Value.bool b)) ?_, balloc (b0 _) _⟩
  simp_all [spl]
theorem check_any (k n : Int) (s : ByteArray) (hs : s.size ≤ 1048576) (w : World) : Calls Tryz.prog 36 #[.agg #[.int .i64 k, .int .i64 n, .string s]] w fun e w' => e = .returned (.int .i64 (ck ⟨k, n, s⟩)) ∧ Below w.heap.size w w' := by
  have C1 := Lib.hid (isFormed_any k n s)
  have C2 := Lib.hid (isLimited_any k n s)
  have C3 := Lib.hid (isSpelled_any k n s hs)
  have V0 := Vx.new w k n s 42
  unfold ck
  generalize fmd ⟨k, n, s⟩ = f at *
  generalize lmt ⟨k, n, s⟩ = l at *
  generalize spl ⟨k, n, s⟩ = p at *
  go_enter Tryz.func36, Tryz.ntmps36
  go_wp2_with fail
  refine (C1.out _).mono ?_
  rintro e w1 ⟨rfl, b1⟩
  obtain ⟨c0, c1, c2⟩ := V0.keeps b1
  have V1 := Lib.hid (V0.keeps b1)
  replace b1 := (balloc (b0 w) _).trans (b1.mono (by simp))
  cases f
  · go_wp2_with fail
    go_ret
    exact ⟨rfl, b1⟩
  go_wp2_with fail
  refine (C2.out _).mono ?_
  rintro e w2 ⟨rfl, b2⟩
  obtain ⟨c0, c1, c2⟩ := V1.out.keeps b2
  have V2 := Lib.hid (V1.out.keeps b2)
  replace b2 := bnext b1 b2
  cases l
  · go_wp2_with fail
    go_ret
    exact ⟨rfl, b2⟩
  go_wp2_with fail
  refine (C3.out _).mono ?_
  rintro e w3 ⟨rfl, b3⟩
  replace b3 := bnext b2 b3
  cases p
  · go_wp2_with fail
    go_ret
    exact ⟨rfl, b3⟩
  · go_wp2_with fail
    go_ret
    exact ⟨rfl, b3⟩
end Go.Proofs.YtkfciilclfhabaaGreatDoor

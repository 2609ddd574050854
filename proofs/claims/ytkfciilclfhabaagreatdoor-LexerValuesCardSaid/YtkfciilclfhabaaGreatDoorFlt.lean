/-
  What a token's text is, and the codes of problems.
-/
import Derived.Test.YtkfciilclfhabaaGreatDoorShq
import Derived.Test.YtkfciilclfhabaaGreatDoorChk
namespace Go.Proofs.YtkfciilclfhabaaGreatDoor
open Go.RowKit dec

theorem ba_ext {a b : ByteArray} (h : a.data.toList = b.data.toList) : a = b := by
  cases a; cases b
  simp only at h
  rw [Array.toList_inj.1 h]
theorem ba_of {b : ByteArray} {l : List UInt8} (h : b.data.toList = l) : b = ⟨l.toArray⟩ := ba_ext h
theorem ret_str {a b : ByteArray} (h : a = b) : Ending.returned (Value.string a) = .returned (.string b) := by rw [h]
theorem ret_int {k : IntKind} {a b : Int} (h : a = b) : Ending.returned (Value.int k a) = .returned (.int k b) := by rw [h]
theorem ret_bool {a b : Bool} (h : a = b) : Ending.returned (Value.bool a) = .returned (.bool b) := by rw [h]
theorem slice_ij (s : ByteArray) {i j : Nat} {x y : Int} (hx : x = (i : Nat)) (hy : y = (j : Nat)) (hij : i ≤ j) (hj : j ≤ s.size) (W : World) : (Instr.slice 9 (.string s) (some (.int .i64 x)) (some (.int .i64 y)) none).run Tryz.prog W = .ok (.string (s.extract i j)) W := by
  subst hx hy
  exact Go.run_slice_string W 9 s .i64 .i64 i j Tryz.underlying9 (by omega) (by omega) (by omega)
set_option maxRecDepth 100000 in
theorem content_any (k : Int) (s : ByteArray) (hs : s.size ≤ 140737488355328) (h : k = 4 → 2 ≤ s.size) (w : World) :
    Calls Tryz.prog 28 #[.int .i64 k, .string s] w fun e w' => e = .returned (.string ⟨(cont k s.data.toList).toArray⟩) ∧ w' = w := by
  by_cases hk : k = 4
  · have h2 := h hk
    have q1 : (k == 4) = true := by rw [hk]; rfl
    have he := Lib.hid (show s.extract 1 (s.size - 1) = ⟨(cont k s.data.toList).toArray⟩ by
      refine ba_of ?_
      rw [ext_data]
      unfold cont
      rw [if_pos hk, str_len, show s.size - 1 - 1 = s.size - 2 by omega])
    clear h hk
    have SL := fun W => slice_ij s (i := 1) (j := s.size - 1) (x := 1) (y := (s.size : Int) - 1) rfl (by omega) (by omega) (by omega) W
    rw [he.out] at SL
    generalize (⟨(cont k s.data.toList).toArray⟩ : ByteArray) = R at *
    clear he
    go_enter Tryz.func28, Tryz.ntmps28
    go_wp2_with fail
    go_ret
    exact ⟨rfl, rfl⟩
  · have q1 : (k == 4) = false := by rw [beq_eq_false_iff_ne]; exact hk
    have he := Lib.hid (show s = ⟨(cont k s.data.toList).toArray⟩ from ba_of (cont_other hk _).symm)
    clear h hk hs
    go_enter Tryz.func28, Tryz.ntmps28
    go_wp2_with fail
    go_ret
    exact ⟨ret_str he.out, rfl⟩
theorem ck_text (s : ByteArray) : ck ⟨4, 0, s⟩ = txE s.data.toList := by
  unfold ck txE fmd lmt spl
  rw [str_len]
  by_cases h : 64 < s.size
  · rw [if_pos h]
    simp [show ¬ s.size ≤ 64 by omega]
  · rw [if_neg h]
    simp [show s.size ≤ 64 by omega]
theorem flt_else {k : Int} (h1 : k ≠ 1) (h2 : k ≠ 2) (h3 : k ≠ 3) (h4 : k ≠ 4) (h0 : k ≠ 0) (p : List UInt8) : flt k p = 0 := by
  unfold flt
  rw [if_neg h1, if_neg h2, if_neg h3, if_neg h4, if_neg h0]
theorem text_two {l : List UInt8} (h : shp l = (4, l.length)) : 2 ≤ l.length := by
  have h1 := shp_text (l := l) (by rw [h])
  rw [h, List.take_length] at h1
  have := congrArg List.length h1
  simp only [List.length_cons, List.length_append, List.length_nil] at this
  omega
set_option maxRecDepth 100000 in
set_option maxHeartbeats 2000000 in
theorem fault_any (k : Int) (s : ByteArray) (hs : s.size ≤ 1048576) (h : k = 0 ∨ shp s.data.toList = (k, s.data.toList.length)) (w : World) (T : Tabs w) :
    Calls Tryz.prog 27 #[.int .i64 k, .string s] w fun e w' => e = .returned (.int .i64 (flt k s.data.toList)) ∧ Below w.heap.size w w' := by
  by_cases h1 : k = 1
  · subst h1
    have hf := Lib.hid (flt_one s.data.toList)
    rw [str_len] at hf
    clear h T
    by_cases hc : 24 < s.size
    · have q : decide (24 < (s.size : Int)) = true := decide_eq_true (by omega)
      rw [if_pos hc] at hf
      go_enter Tryz.func27, Tryz.ntmps27
      go_wp2_with fail
      go_ret
      exact ⟨ret_int hf.out.symm, b0 w⟩
    · have q : decide (24 < (s.size : Int)) = false := decide_eq_false (by omega)
      rw [if_neg hc] at hf
      go_enter Tryz.func27, Tryz.ntmps27
      go_wp2_with fail
      go_ret
      exact ⟨ret_int hf.out.symm, b0 w⟩
  by_cases h2 : k = 2
  · subst h2
    obtain ⟨d1, d2⟩ := shp_int (h.resolve_left (by decide))
    have hat := atoi_digits d1 d2
    have hf := flt_two s.data.toList
    clear h h1 d1 d2
    generalize dval 0 s.data.toList = v at *
    by_cases hv : v < 9223372036854775808
    · rw [if_pos hv] at hat
      have AC := Lib.hid (Tryz.strconv_Atoi_ok s (by omega) _ hat w)
      by_cases hc : 1152921504606846976 < v
      · rw [if_pos hc] at hf
        replace hf := Lib.hid hf
        have q : decide (1152921504606846976 < (v : Int)) = true := decide_eq_true (by omega)
        clear hat T
        go_enter Tryz.func27, Tryz.ntmps27
        go_wp2_with fail
        refine AC.out.mono ?_
        rintro e w1 ⟨rfl, hw⟩
        have B1 := Lib.hid (show Below w.heap.size w w1 by rcases hw with rfl | ⟨t, rfl⟩; exact b0 _; exact below_bytes _ _ _)
        clear hw
        go_wp2_with fail
        go_ret
        exact ⟨ret_int hf.out.symm, B1.out⟩
      · rw [if_neg hc] at hf
        replace hf := Lib.hid hf
        have q : decide (1152921504606846976 < (v : Int)) = false := decide_eq_false (by omega)
        clear hat T
        go_enter Tryz.func27, Tryz.ntmps27
        go_wp2_with fail
        refine AC.out.mono ?_
        rintro e w1 ⟨rfl, hw⟩
        have B1 := Lib.hid (show Below w.heap.size w w1 by rcases hw with rfl | ⟨t, rfl⟩; exact b0 _; exact below_bytes _ _ _)
        clear hw
        go_wp2_with fail
        go_ret
        exact ⟨ret_int hf.out.symm, B1.out⟩
    · rw [if_neg hv] at hat
      rw [if_pos (by omega)] at hf
      replace hf := Lib.hid hf
      obtain ⟨tp, p, hr⟩ := T.ran
      have AC := Lib.hid (Tryz.strconv_Atoi_range_var s (by omega) hat tp p w hr)
      clear hat T hr
      go_enter Tryz.func27, Tryz.ntmps27
      go_wp2_with fail
      refine AC.out.mono ?_
      rintro e w1 ⟨N, rfl, hw⟩
      have B1 := Lib.hid hw.2.2
      clear hw
      go_wp2_with fail
      go_ret
      exact ⟨ret_int hf.out.symm, B1.out⟩
  by_cases h3 : k = 3
  · subst h3
    have PC := Lib.hid (parse_any s w (by omega) T.pow)
    have hf := flt_three s.data.toList
    clear h T h1 h2
    generalize paE s.data.toList = x at *
    generalize paX s.data.toList = y at *
    replace hf := Lib.hid hf
    go_enter Tryz.func27, Tryz.ntmps27
    go_wp2_with fail
    refine PC.out.mono ?_
    rintro e w1 ⟨rfl, b1⟩
    have B1 := Lib.hid b1
    clear b1
    go_wp2_with fail
    go_ret
    exact ⟨ret_int hf.out.symm, B1.out⟩
  by_cases h4 : k = 4
  · subst h4
    have h22 := text_two (h.resolve_left (by decide))
    rw [str_len] at h22
    have CC := Lib.hid (content_any 4 s (by omega) (fun _ => h22) w)
    have hl : (cont 4 s.data.toList).length ≤ 1048576 := by
      unfold cont
      rw [if_pos rfl, List.length_take, List.length_drop, str_len]
      omega
    have hf := flt_four s.data.toList
    obtain ⟨t, ht⟩ : ∃ t : ByteArray, t = ⟨(cont 4 s.data.toList).toArray⟩ := ⟨_, rfl⟩
    have htl : t.data.toList = cont 4 s.data.toList := by rw [ht]
    rw [← ht] at CC
    rw [← htl] at hf hl
    rw [str_len] at hl
    have KC := Lib.hid (fun W => check_any 4 0 t hl W)
    rw [ck_text, ← hf] at KC
    clear h T h1 h2 h3 ht htl hf h22 hl
    generalize flt 4 s.data.toList = x at *
    go_enter Tryz.func27, Tryz.ntmps27
    go_wp2_with fail
    refine CC.out.mono ?_
    rintro e w1 ⟨rfl, rfl⟩
    go_wp2_with fail
    refine (KC.out _).mono ?_
    rintro e w1 ⟨rfl, b1⟩
    have B1 := Lib.hid b1
    clear b1
    go_wp2_with fail
    go_ret
    exact ⟨rfl, B1.out⟩
  have q1 : (k == 1) = false := by rw [beq_eq_false_iff_ne]; exact h1
  have q2 : (k == 2) = false := by rw [beq_eq_false_iff_ne]; exact h2
  have q3 : (k == 3) = false := by rw [beq_eq_false_iff_ne]; exact h3
  have q4 : (k == 4) = false := by rw [beq_eq_false_iff_ne]; exact h4
  by_cases h0 : k = 0
  · subst h0
    have hf := Lib.hid (flt_zero s.data.toList)
    clear h T h1 h2 h3 h4 q1 q2 q3 q4
    go_enter Tryz.func27, Tryz.ntmps27
    go_wp2_with fail
    go_ret
    exact ⟨ret_int hf.out.symm, b0 w⟩
  · have q0 : (k == 0) = false := by rw [beq_eq_false_iff_ne]; exact h0
    have hf := Lib.hid (flt_else h1 h2 h3 h4 h0 s.data.toList)
    clear h T h1 h2 h3 h4 h0
    go_enter Tryz.func27, Tryz.ntmps27
    go_wp2_with fail
    go_ret
    exact ⟨ret_int hf.out.symm, b0 w⟩
end Go.Proofs.YtkfciilclfhabaaGreatDoor

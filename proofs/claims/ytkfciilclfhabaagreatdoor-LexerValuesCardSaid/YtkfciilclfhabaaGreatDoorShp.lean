/-
  The shape of what a string begins with.
-/
import Derived.Test.YtkfciilclfhabaaGreatDoorSkp
namespace Go.Proofs.YtkfciilclfhabaaGreatDoor
open Go.RowKit dec

theorem toList_nil (s : ByteArray) : (s.toList == []) = decide (s.size = 0) := by
  rw [ByteArray.toList_eq, Lib.size_eq s]
  cases s.data.toList <;> simp
theorem ext_data (s : ByteArray) (i j : Nat) : (s.extract i j).data.toList = (s.data.toList.drop i).take (j - i) := by
  rw [ByteArray.data_extract, Array.toList_extract, List.extract_eq_take_drop]
theorem ext_tail (s : ByteArray) (i : Nat) : (s.extract i s.size).data.toList = s.data.toList.drop i := by
  rw [ext_data, List.take_of_length_le]
  rw [List.length_drop, str_len]
  omega
theorem pre_two (c : UInt8) (r : List UInt8) (a : UInt8) : Lib.hasPrefix (c :: r) [a, 61] = decide (c = a ∧ r.head? = some 61) := by
  cases r with
  | nil =>
    rw [Bool.eq_iff_iff]
    simp [Lib.hasPrefix, List.isPrefixOf]
  | cons d r =>
    rw [Bool.eq_iff_iff]
    simp only [Lib.hasPrefix, List.isPrefixOf, Bool.and_eq_true, beq_iff_eq, List.head?_cons, Option.some.injEq, decide_eq_true_eq, Bool.and_true]
    constructor
    · rintro ⟨h1, h2⟩; exact ⟨h1.symm, h2.symm⟩
    · rintro ⟨h1, h2⟩; exact ⟨h1.symm, h2.symm⟩
theorem pre_dot (l : List UInt8) : Lib.hasPrefix l [46] = decide (l.head? = some 46) := by
  cases l with
  | nil => rfl
  | cons d r =>
    rw [Bool.eq_iff_iff]
    simp only [Lib.hasPrefix, List.isPrefixOf, beq_iff_eq, List.head?_cons, Option.some.injEq, decide_eq_true_eq, Bool.and_true]
    exact eq_comm
theorem u8_is {c : UInt8} {n : Nat} (d : UInt8) (hd : d.toNat = n) : c.toNat = n ↔ c = d := by
  rw [← hd]
  exact ⟨fun h => UInt8.toNat_inj.1 h, fun h => by rw [h]⟩
theorem sgn_parts (c : UInt8) (r : List UInt8) : sgn (c :: r) = if (Lib.hasPrefix (c :: r) [61, 61] || Lib.hasPrefix (c :: r) [33, 61] || Lib.hasPrefix (c :: r) [60, 61]) = true then (5, 2) else if isS c = true then (5, 1) else (0, 1) := by
  have e1 : c.toNat = 61 ↔ c = 61 := u8_is 61 rfl
  have e2 : c.toNat = 33 ↔ c = 33 := u8_is 33 rfl
  have e3 : c.toNat = 60 ↔ c = 60 := u8_is 60 rfl
  rw [sgn_cons, pre_two, pre_two, pre_two]
  have e : (decide (c = 61 ∧ r.head? = some 61) || decide (c = 33 ∧ r.head? = some 61) || decide (c = 60 ∧ r.head? = some 61)) = true ↔ (c = 61 ∨ c = 33 ∨ c = 60) ∧ r.head? = some 61 := by
    simp only [Bool.or_eq_true, decide_eq_true_eq]
    constructor
    · rintro ((h | h) | h)
      · exact ⟨.inl h.1, h.2⟩
      · exact ⟨.inr (.inl h.1), h.2⟩
      · exact ⟨.inr (.inr h.1), h.2⟩
    · rintro ⟨h | h | h, h2⟩
      · exact .inl (.inl ⟨h, h2⟩)
      · exact .inl (.inr ⟨h, h2⟩)
      · exact .inr ⟨h, h2⟩
  simp only [e, e1, e2, e3]
theorem cls_is (c : UInt8) : (cls c == 8) = isS c ∧ (cls c == 4) = isL c ∧ (cls c == 5) = isD c ∧ (cls c == 7) = decide (c.toNat = 34) := by
  have := clsOk_all c
  unfold clsOk at this
  simp only [Bool.and_eq_true, beq_iff_eq] at this
  refine ⟨?_, ?_, ?_, ?_⟩
  · rw [← this.1.1.2, eqb]
  · rw [← this.1.1.1.2, eqb]
  · rw [← this.1.1.1.1.1.2, eqb]
  · rw [← this.2, eqb]
theorem ret_two {a b c d : Int} (h1 : a = c) (h2 : b = d) : Ending.returned (Value.tuple #[.int .i64 a, .int .i64 b]) = .returned (.tuple #[.int .i64 c, .int .i64 d]) := by rw [h1, h2]
set_option maxRecDepth 100000 in
set_option maxHeartbeats 2000000 in
theorem signShape_any (s : ByteArray) (h0 : 0 < s.size) (w : World) (T : Tabs w) :
    Calls Tryz.prog 51 #[.string s] w fun e w' => e = .returned (.tuple #[.int .i64 (sgn s.data.toList).1, .int .i64 ((sgn s.data.toList).2 : Nat)]) ∧ w' = w := by
  have H1 := Lib.hid (fun W => Tryz.strings_HasPrefix s ⟨#[61, 61]⟩ W)
  have H2 := Lib.hid (fun W => Tryz.strings_HasPrefix s ⟨#[33, 61]⟩ W)
  have H3 := Lib.hid (fun W => Tryz.strings_HasPrefix s ⟨#[60, 61]⟩ W)
  have e := at_drop s h0
  rw [List.drop_zero] at e
  have hg := sgn_parts s[0] (s.data.toList.drop (0 + 1))
  rw [← e] at hg
  rw [show (⟨#[61, 61]⟩ : ByteArray).data.toList = [61, 61] from rfl] at H1
  rw [show (⟨#[33, 61]⟩ : ByteArray).data.toList = [33, 61] from rfl] at H2
  rw [show (⟨#[60, 61]⟩ : ByteArray).data.toList = [60, 61] from rfl] at H3
  generalize Lib.hasPrefix s.data.toList [61, 61] = b1 at *
  generalize Lib.hasPrefix s.data.toList [33, 61] = b2 at *
  generalize Lib.hasPrefix s.data.toList [60, 61] = b3 at *
  have C := Lib.hid (classOf_any s[0] w T)
  have hS := (cls_is s[0]).1
  generalize isS s[0] = z at hS hg
  generalize cls s[0] = k at C hS
  generalize sgn s.data.toList = g at *
  clear T e
  cases b1
  · cases b2
    · cases b3
      · cases z
        · simp only [Bool.or_self, Bool.false_eq_true, if_false] at hg
          subst hg
          go_enter Tryz.func51, Tryz.ntmps51
          go_wp2_with fail
          refine (H1.out _).mono ?_
          rintro e w' ⟨rfl, rfl⟩
          go_wp2_with fail
          refine (H2.out _).mono ?_
          rintro e w' ⟨rfl, rfl⟩
          go_wp2_with fail
          refine (H3.out _).mono ?_
          rintro e w' ⟨rfl, rfl⟩
          go_wp2_with fail
          refine C.out.mono ?_
          rintro e w' ⟨rfl, rfl⟩
          go_wp2_with fail
          go_ret2
          exact ⟨rfl, rfl⟩
        · simp only [Bool.or_self, Bool.false_eq_true, if_false, if_true] at hg
          subst hg
          go_enter Tryz.func51, Tryz.ntmps51
          go_wp2_with fail
          refine (H1.out _).mono ?_
          rintro e w' ⟨rfl, rfl⟩
          go_wp2_with fail
          refine (H2.out _).mono ?_
          rintro e w' ⟨rfl, rfl⟩
          go_wp2_with fail
          refine (H3.out _).mono ?_
          rintro e w' ⟨rfl, rfl⟩
          go_wp2_with fail
          refine C.out.mono ?_
          rintro e w' ⟨rfl, rfl⟩
          go_wp2_with fail
          go_ret2
          exact ⟨rfl, rfl⟩
      · simp only [Bool.or_true, if_true] at hg
        subst hg
        go_enter Tryz.func51, Tryz.ntmps51
        go_wp2_with fail
        refine (H1.out _).mono ?_
        rintro e w' ⟨rfl, rfl⟩
        go_wp2_with fail
        refine (H2.out _).mono ?_
        rintro e w' ⟨rfl, rfl⟩
        go_wp2_with fail
        refine (H3.out _).mono ?_
        rintro e w' ⟨rfl, rfl⟩
        go_wp2_with fail
        go_ret2
        exact ⟨rfl, rfl⟩
    · simp only [Bool.or_true, Bool.true_or, if_true] at hg
      subst hg
      go_enter Tryz.func51, Tryz.ntmps51
      go_wp2_with fail
      refine (H1.out _).mono ?_
      rintro e w' ⟨rfl, rfl⟩
      go_wp2_with fail
      refine (H2.out _).mono ?_
      rintro e w' ⟨rfl, rfl⟩
      go_wp2_with fail
      go_ret2
      exact ⟨rfl, rfl⟩
  · simp only [Bool.true_or, if_true] at hg
    subst hg
    go_enter Tryz.func51, Tryz.ntmps51
    go_wp2_with fail
    refine (H1.out _).mono ?_
    rintro e w' ⟨rfl, rfl⟩
    go_wp2_with fail
    go_ret2
    exact ⟨rfl, rfl⟩
end Go.Proofs.YtkfciilclfhabaaGreatDoor

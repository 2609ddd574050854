/-
  The reference's Parse of decimals: its loops.
-/
import Derived.Test.YtkfciilclfhabaaGreatDoorRpv
namespace Go.Proofs.YtkfciilclfhabaaGreatDoor
open Go.RowKit dec

theorem stp_drop (s : ByteArray) {j : Nat} (hj : j < s.size) (q : Nat × Int) : (s.data.toList.drop j).foldl stp q = (s.data.toList.drop (j + 1)).foldl stp (stp q s[j]) := by
  have h : j < s.data.toList.length := by rw [← Lib.size_eq]; exact hj
  rw [List.drop_eq_getElem_cons h]
  rfl
theorem form_pos {s : ByteArray} (h : formP s.data.toList = true) : 0 < s.size := by
  rcases Nat.eq_zero_or_pos s.size with h0 | h0
  · have : s.data.toList = [] := List.eq_nil_of_length_eq_zero (by rw [← Lib.size_eq]; omega)
    rw [this] at h
    cases h
  · exact h0
theorem isD_nat (c : UInt8) : isD c = true ↔ 48 ≤ c.toNat ∧ c.toNat ≤ 57 := isD_iff c
theorem stp_dot {c : UInt8} (h : c.toNat = 46) (X : Nat) (B : Int) : stp (X, B) c = (X, 0) ∧ isD c = false := by
  have e : c = 46 := UInt8.toNat_inj.1 h
  subst e
  exact ⟨rfl, rfl⟩
theorem stp_dig {c : UInt8} (h : isD c = true) (X : Nat) (B : Int) : stp (X, B) c = (sat X (c.toNat - 48), if 0 ≤ B then B + 1 else B) := by
  have h1 := (isD_iff c).1 h
  have e : ¬ c = 46 := fun e => by rw [e] at h1; exact absurd h1.1 (by decide)
  unfold stp
  simp only [e, h, if_true, if_false]
theorem stp_else {c : UInt8} (h : isD c = false) (h2 : c.toNat ≠ 46) (X : Nat) (B : Int) : stp (X, B) c = (X, B) := by
  have e : ¬ c = 46 := fun e => h2 (by rw [e]; rfl)
  unfold stp
  simp [e, h]

set_option maxRecDepth 20000 in
set_option maxHeartbeats 4000000 in
theorem rparse02_of (s : ByteArray) (hs : s.size ≤ 1048576) (w : World) (formed_any : ∀ w, Calls Tryz.prog 106 #[.string s] w fun e w' => e = .returned (.bool (formP s.data.toList)) ∧ w' = w) : Calls Tryz.prog 85 #[.string s] w fun e w' => e = .returned (.tuple #[.int .i64 (rpP s.data.toList).1, .int .i64 (rpP s.data.toList).2]) ∧ w' = w := by
  have C0 := Lib.hid formed_any
  cases hF : formP s.data.toList
  · rw [hF] at C0
    have hR : rpP s.data.toList = (0, 3) := by unfold rpP; rw [hF]; rfl
    rw [hR]
    clear hR hF
    go_enter Tryz.func85, Tryz.ntmps85
    go_wp2_with fail
    refine (C0.out _).mono ?_
    rintro e w' ⟨rfl, rfl⟩
    go_wp2_with fail
    go_ret2
    exact ⟨rfl, rfl⟩
  rw [hF] at C0
  have hpos := form_pos hF
  have hR : rpP s.data.toList = rpEnd s.data.toList (scl (6 - (max (s.data.toList.foldl stp (0, -1)).2 0).toNat) (s.data.toList.foldl stp (0, -1)).1) := by unfold rpP; rw [hF]; rfl
  rw [hR]
  clear hR hF
  obtain ⟨⟨XE, BE⟩, hE⟩ : ∃ q, s.data.toList.foldl stp (0, -1) = q := ⟨_, rfl⟩
  rw [hE]
  obtain ⟨Z, hZ⟩ : ∃ Z, scl (6 - (max BE 0).toNat) XE = Z := ⟨_, rfl⟩
  rw [show scl (6 - (max ((XE, BE) : Nat × Int).2 0).toNat) ((XE, BE) : Nat × Int).1 = Z from hZ]
  obtain ⟨⟨r1, r2⟩, hr⟩ : ∃ r, rpEnd s.data.toList Z = r := ⟨_, rfl⟩
  rw [hr]
  have HR := Lib.hid hr
  have HZ := Lib.hid hZ
  have HE := Lib.hid hE
  clear hE hZ hr
  go_enter Tryz.func85, Tryz.ntmps85
  go_wp2_with fail
  refine (C0.out _).mono ?_
  rintro e w' ⟨rfl, rfl⟩
  clear C0
  go_wp2_with fail
  go_loopw [4, 5, 6] (fun vx vb vi wr => ∃ (j X : Nat) (B : Int), j ≤ s.size ∧ X ≤ 1152921504606846977 ∧ -1 ≤ B ∧ B ≤ j ∧ vx = .int .i64 (X : Nat) ∧ vb = .int .i64 B ∧ vi = .int .i64 (j : Nat) ∧ Hid ((s.data.toList.drop j).foldl stp (X, B) = (XE, BE)) ∧ wr = w') (fun _ _ vi _ => s.size - (intOf vi).toNat)
  case atStart => exact ⟨0, 0, -1, by omega, by omega, by omega, by omega, rfl, rfl, rfl, HE.out, rfl⟩
  case round =>
    obtain ⟨j, X, B, hj, hX, hB1, hB2, rfl, rfl, rfl, hd, rfl⟩ := hrel
    by_cases hc : j < s.size
    · have hst := stp_drop s hc (X, B)
      rw [hd.out] at hst
      by_cases h46 : s[j].toNat = 46
      · obtain ⟨e1, e2⟩ := stp_dot h46 X B
        rw [e1] at hst
        have HD := Lib.hid hst.symm
        have C := Lib.hid (fun w => digit_any 46 w)
        rw [show (decide (48 ≤ 46) && decide (46 ≤ 57)) = false from rfl] at C
        clear hst e1 e2 hd
        go_wp2_with (go_at_call 107; refine (C.out _).mono ?_; rintro e w' ⟨rfl, rfl⟩)
        refine ⟨⟨j + 1, X, 0, by omega, hX, by omega, by omega, rfl, rfl, rfl, HD, trivial⟩, ?_⟩
        show s.size - ((j : Int) + 1).toNat < s.size - ((j : Nat) : Int).toNat
        omega
      · cases hy : isD s[j]
        · have e1 := stp_else hy h46 X B
          rw [e1] at hst
          have HD := Lib.hid hst.symm
          have C := Lib.hid (fun w => digitc_any s[j] w)
          rw [hy] at C
          have t46 : (((s[j].toNat : Nat) : Int) == 46) = false := by rw [beq_eq_false_iff_ne]; omega
          clear hst e1 hd hy
          go_wp2_with (go_at_call 107; refine (C.out _).mono ?_; rintro e w' ⟨rfl, rfl⟩)
          refine ⟨⟨j + 1, X, B, by omega, hX, hB1, by omega, rfl, rfl, rfl, HD, trivial⟩, ?_⟩
          show s.size - ((j : Int) + 1).toNat < s.size - ((j : Nat) : Int).toNat
          omega
        · have e1 := stp_dig hy X B
          rw [e1] at hst
          have HD := Lib.hid hst.symm
          have C := Lib.hid (fun w => digitc_any s[j] w)
          rw [hy] at C
          have hd2 := (isD_iff _).1 hy
          have t46 : (((s[j].toNat : Nat) : Int) == 46) = false := by rw [beq_eq_false_iff_ne]; omega
          clear hst e1 hd hy
          by_cases b0 : 0 ≤ B
          · rw [if_pos b0] at HD
            go_wp2_with (go_at_call 107; refine (C.out _).mono ?_; rintro e w' ⟨rfl, rfl⟩)
            refine ⟨⟨j + 1, sat X (s[j].toNat - 48), B + 1, by omega, sat_le _ _, by omega, by omega, congrArg (Value.int .i64) (by unfold sat; omega), rfl, rfl, HD, trivial⟩, ?_⟩
            show s.size - ((j : Int) + 1).toNat < s.size - ((j : Nat) : Int).toNat
            omega
          · rw [if_neg b0] at HD
            go_wp2_with (go_at_call 107; refine (C.out _).mono ?_; rintro e w' ⟨rfl, rfl⟩)
            refine ⟨⟨j + 1, sat X (s[j].toNat - 48), B, by omega, sat_le _ _, by omega, by omega, congrArg (Value.int .i64) (by unfold sat; omega), rfl, rfl, HD, trivial⟩, ?_⟩
            show s.size - ((j : Int) + 1).toNat < s.size - ((j : Nat) : Int).toNat
            omega
    · have hz : (s.data.toList.drop j).foldl stp (X, B) = (X, B) := by rw [List.drop_eq_nil_of_le (by rw [← Lib.size_eq]; omega)]; rfl
      rw [hd.out] at hz
      obtain ⟨rfl, rfl⟩ : XE = X ∧ BE = B := by simpa using hz
      clear hz hd HE
      have hlt : decide ((j : Int) < (s.size : Int)) = false := decide_eq_false (by omega)
      obtain ⟨K, hK⟩ : ∃ K : Nat, max BE 0 = (K : Int) := ⟨(max BE 0).toNat, by omega⟩
      have hZ := HZ.out
      rw [hK, Int.toNat_natCast] at hZ
      have hZl := scl_le (6 - K) XE hX
      rw [hZ] at hZl
      have HZ := Lib.hid hZ
      have hK2 : K ≤ 1048576 := by omega
      clear hZ
      go_wp2_with fail
      go_loopw [4, 7] (fun vx vi wr2 => ∃ (k Y : Nat), k ≤ 1048576 ∧ Y ≤ 1152921504606846977 ∧ vx = .int .i64 (Y : Nat) ∧ vi = .int .i64 (k : Nat) ∧ Hid (scl (6 - k) Y = Z) ∧ wr2 = wr) (fun _ vi _ => 6 - (intOf vi).toNat)
      case atStart => exact ⟨K, XE, hK2, hX, rfl, rfl, HZ.out, rfl⟩
      case round =>
        obtain ⟨k, Y, hk, hY, rfl, rfl, hd, rfl⟩ := hrel
        by_cases hc : k < 6
        · have HD : Hid (scl (6 - (k + 1)) (sat Y 0) = Z) := by
            unfold Hid
            rw [← hd.out, show 6 - k = (6 - (k + 1)) + 1 by omega]
            rfl
          clear hd
          have hlt6 : decide ((k : Int) < 6) = true := decide_eq_true (by omega)
          go_wp2_with fail
          refine ⟨⟨k + 1, sat Y 0, by omega, sat_le _ _, congrArg (Value.int .i64) (by unfold sat; omega), rfl, HD, trivial⟩, ?_⟩
          show 6 - ((k : Int) + 1).toNat < 6 - ((k : Nat) : Int).toNat
          omega
        · have hYZ : Y = Z := by
            rw [← hd.out, show 6 - k = 0 by omega]
            rfl
          subst hYZ
          clear hd HZ
          have hlt6 : decide ((k : Int) < 6) = false := decide_eq_false (by omega)
          by_cases hbig : 1152921504606846976 < Y
          · have hr := HR.out
            unfold rpEnd at hr
            rw [if_pos hbig] at hr
            obtain ⟨rfl, rfl⟩ : (0 : Int) = r1 ∧ (2 : Int) = r2 := by simpa using hr
            have hb : decide ((1152921504606846976 : Int) < (Y : Int)) = true := decide_eq_true (by omega)
            clear hr
            go_wp2_with fail
            go_ret2
            exact ⟨rfl, rfl⟩
          · have hr := HR.out
            unfold rpEnd at hr
            rw [if_neg hbig, head_at s hpos] at hr
            have hb : decide ((1152921504606846976 : Int) < (Y : Int)) = false := decide_eq_false (by omega)
            by_cases h45 : s[0].toNat = 45
            · rw [if_pos (congrArg some (UInt8.toNat_inj.1 h45))] at hr
              obtain ⟨rfl, rfl⟩ : -(Y : Int) = r1 ∧ (0 : Int) = r2 := by simpa using hr
              clear hr
              go_wp2_with fail
              go_ret2
              exact ⟨rfl, rfl⟩
            · rw [if_neg (fun e => h45 (by injection e with e; rw [e]; rfl))] at hr
              obtain ⟨rfl, rfl⟩ : (Y : Int) = r1 ∧ (0 : Int) = r2 := by simpa using hr
              have t45 : (((s[0].toNat : Nat) : Int) == 45) = false := by rw [beq_eq_false_iff_ne]; omega
              clear hr
              go_wp2_with fail
              go_ret2
              exact ⟨rfl, rfl⟩
theorem rparse02_any (s : ByteArray) (hs : s.size ≤ 1048576) (w : World) : Calls Tryz.prog 85 #[.string s] w fun e w' => e = .returned (.tuple #[.int .i64 (rpP s.data.toList).1, .int .i64 (rpP s.data.toList).2]) ∧ w' = w :=
  rparse02_of s hs w (fun w => formed_any s hs w)
end Go.Proofs.YtkfciilclfhabaaGreatDoor

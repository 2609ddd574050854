/-
  The reference: great integers, signs.
-/
import Derived.Test.YtkfciilclfhabaaGreatDoorRsk
namespace Go.Proofs.YtkfciilclfhabaaGreatDoor
open Go.RowKit dec

theorem dval_drop (s : ByteArray) {j : Nat} (hj : j < s.size) (a : Nat) : dval a (s.data.toList.drop j) = dval (a * 10 + (s[j].toNat - 48)) (s.data.toList.drop (j + 1)) := by
  rw [at_drop s hj, dval_cons]
theorem isD_mem {s : ByteArray} (h : ∀ c ∈ s.data.toList, isD c = true) {j : Nat} (hj : j < s.size) : isD s[j] = true := by
  have := h (s.data.toList[j]'(by rw [str_len]; exact hj)) (List.getElem_mem _)
  exact this
set_option maxRecDepth 100000 in
set_option maxHeartbeats 4000000 in
theorem rgreat_any (s : ByteArray) (hs : s.size ≤ 1048576) (hd : ∀ c ∈ s.data.toList, isD c = true) (w : World) :
    Calls Tryz.prog 86 #[.string s] w fun e w' => e = .returned (.bool (decide (1152921504606846976 < dval 0 s.data.toList))) ∧ w' = w := by
  obtain ⟨V, hV⟩ : ∃ V, dval 0 s.data.toList = V := ⟨_, rfl⟩
  rw [hV]
  replace hV := Lib.hid hV
  have HD := Lib.hid hd
  have Z0 := Lib.hid hs
  clear hs hd
  go_enter Tryz.func86, Tryz.ntmps86
  go_wp2_with fail
  go_loopw [3, 4] (fun vn vi wr => ∃ (N j : Nat), vn = .int .i64 (N : Nat) ∧ vi = .int .i64 (j : Nat) ∧ j ≤ s.size ∧ Hid (N ≤ 1152921504606846979) ∧ Hid (dval N (s.data.toList.drop j) = V) ∧ wr = w) (fun _ vi _ => s.size - (intOf vi).toNat)
  case atStart => exact ⟨0, 0, rfl, rfl, Nat.zero_le _, Lib.hid (by omega), Lib.hid hV.out, rfl⟩
  case round =>
    obtain ⟨N, j, rfl, rfl, hj, hN, hr, rfl⟩ := hrel
    by_cases hc : j < s.size
    · have q2 : decide ((j : Int) < (s.size : Int)) = true := decide_eq_true (by omega)
      have hst := dval_drop s hc N
      rw [hr.out] at hst
      have hd2 := (isD_iff _).1 (isD_mem HD.out hc)
      by_cases hg : 115292150460684697 < N
      · have q3 : decide (115292150460684697 < (N : Int)) = true := decide_eq_true (by omega)
        have hge := dval_ge (s.data.toList.drop (j + 1)) (N * 10 + (s[j].toNat - 48))
        have HF := Lib.hid (show decide (1152921504606846976 < V) = true from decide_eq_true (by omega))
        clear hge hst hr hd2 hN hg
        go_wp2_with fail
        go_ret
        exact ⟨ret_bool HF.out.symm, rfl⟩
      · have q3 : decide (115292150460684697 < (N : Int)) = false := decide_eq_false (by omega)
        have hn := Lib.hid hst.symm
        have hN2 : N ≤ 115292150460684697 := by omega
        have f4 := Lib.hid (next_at (j := j) (by have := Z0.out; omega))
        clear hst hr hN hg
        go_wp2_with fail
        exact ⟨⟨N * 10 + (s[j].toNat - 48), j + 1, congrArg (Value.int .i64) (by omega), congrArg (Value.int .i64) f4.out, by omega, Lib.hid (by omega), hn, trivial⟩, less_at hc f4.out⟩
    · have q2 : decide ((j : Int) < (s.size : Int)) = false := decide_eq_false (by omega)
      have hz : dval N (s.data.toList.drop j) = N := by rw [List.drop_eq_nil_of_le (by rw [str_len]; omega)]; rfl
      have HF := Lib.hid (show decide (1152921504606846976 < (N : Int)) = decide (1152921504606846976 < V) by rw [← hr.out, hz, decide_eq_decide]; omega)
      clear hz hr hj hN
      go_wp2_with fail
      go_ret
      exact ⟨ret_bool HF.out, rfl⟩
/-- How many bytes has the sign? -/
def sgN (l : List UInt8) : Nat := if (sgn l).1 = 0 then 0 else (sgn l).2
theorem sgN_at (s : ByteArray) {i : Nat} (hi : i < s.size) : sgN (s.data.toList.drop i) =
    if (s[i].toNat = 61 ∨ s[i].toNat = 33 ∨ s[i].toNat = 60) ∧ (s.data.toList.drop (i + 1)).head? = some 61 then 2 else if isS s[i] = true then 1 else 0 := by
  unfold sgN
  rw [at_drop s hi, sgn_cons]
  split
  · rfl
  · split <;> rfl
theorem next_head (s : ByteArray) {i : Nat} (hi : i + 1 < s.size) : (s.data.toList.drop (i + 1)).head? = some 61 ↔ s[i + 1].toNat = 61 := by
  rw [at_drop s hi, List.head?_cons, Option.some.injEq]
  constructor
  · intro h; rw [h]; rfl
  · intro h; exact UInt8.toNat_inj.1 h
theorem no_head (s : ByteArray) {i : Nat} (hi : ¬ i + 1 < s.size) : (s.data.toList.drop (i + 1)).head? = none := by
  rw [List.drop_eq_nil_of_le (by rw [str_len]; omega)]
  rfl
/-- The byte is one of the signs' bytes, or none of them. -/
theorem sign_cases (c : UInt8) : (∃ k ∈ [123, 125, 40, 41, 91, 93, 44, 58, 59, 61, 60, 43, 45, 42, 47, 94, 64], c.toNat = k ∧ isS c = true) ∨ (isS c = false ∧ ∀ k ∈ [123, 125, 40, 41, 91, 93, 44, 58, 59, 61, 60, 43, 45, 42, 47, 94, 64], ((c.toNat : Int) == ((k : Nat) : Int)) = false) := by
  unfold isS
  by_cases h : c.toNat ∈ [123, 125, 40, 41, 91, 93, 44, 58, 59, 61, 60, 43, 45, 42, 47, 94, 64]
  · exact .inl ⟨_, h, rfl, decide_eq_true h⟩
  · refine .inr ⟨decide_eq_false h, fun k hk => ?_⟩
    rw [beq_eq_false_iff_ne]
    intro e
    have : c.toNat = k := by omega
    rw [this] at h
    exact h hk
set_option maxRecDepth 100000 in
set_option maxHeartbeats 8000000 in
theorem rsign_last (cap : Nat) (s : ByteArray) (hs : s.size ≤ 1048576) (i : Nat) (hi : i < s.size) (w : World) (b off : Nat) (hB : w.cell? ⟨b, off + i, none⟩ = some (.int .u8 (s[i].toNat : Int))) (hx : ¬ i + 1 < s.size) :
    Calls Tryz.prog 58 #[.slice (some ⟨b, off, none⟩) s.size cap, .int .i64 (i : Nat)] w fun e w' => e = .returned (.int .i64 ((if isS s[i] = true then 1 else 0 : Nat) : Int)) ∧ w' = w := by
  have f1 := next_at (j := i) (by omega)
  have q1 : decide (((i + 1 : Nat) : Int) < (s.size : Int)) = false := decide_eq_false (by omega)
  have nz : True := trivial
  rcases sign_cases s[i] with ⟨k, hk, hck, hS1⟩ | ⟨hS0, hno⟩
  · rw [if_pos hS1]
    rw [hck] at hB
    clear hck hS1
    simp only [List.mem_cons, List.not_mem_nil, or_false] at hk
    rcases hk with rfl | rfl | rfl | rfl | rfl | rfl | rfl | rfl | rfl | rfl | rfl | rfl | rfl | rfl | rfl | rfl | rfl
    all_goals first
      | (exfalso; revert nz; decide)
      | (
        go_enter Tryz.func58, Tryz.ntmps58
        go_wp2_with fail
        go_ret
        exact ⟨rfl, rfl⟩)
  · rw [hS0]
    have q : decide (false = true) = false := rfl
    simp only [Bool.false_eq_true, if_false]
    have n0 : (((s[i].toNat : Nat) : Int) == 123) = false := hno 123 (by decide)
    have n1 : (((s[i].toNat : Nat) : Int) == 125) = false := hno 125 (by decide)
    have n2 : (((s[i].toNat : Nat) : Int) == 40) = false := hno 40 (by decide)
    have n3 : (((s[i].toNat : Nat) : Int) == 41) = false := hno 41 (by decide)
    have n4 : (((s[i].toNat : Nat) : Int) == 91) = false := hno 91 (by decide)
    have n5 : (((s[i].toNat : Nat) : Int) == 93) = false := hno 93 (by decide)
    have n6 : (((s[i].toNat : Nat) : Int) == 44) = false := hno 44 (by decide)
    have n7 : (((s[i].toNat : Nat) : Int) == 58) = false := hno 58 (by decide)
    have n8 : (((s[i].toNat : Nat) : Int) == 59) = false := hno 59 (by decide)
    have n9 : (((s[i].toNat : Nat) : Int) == 61) = false := hno 61 (by decide)
    have n10 : (((s[i].toNat : Nat) : Int) == 60) = false := hno 60 (by decide)
    have n11 : (((s[i].toNat : Nat) : Int) == 43) = false := hno 43 (by decide)
    have n12 : (((s[i].toNat : Nat) : Int) == 45) = false := hno 45 (by decide)
    have n13 : (((s[i].toNat : Nat) : Int) == 42) = false := hno 42 (by decide)
    have n14 : (((s[i].toNat : Nat) : Int) == 47) = false := hno 47 (by decide)
    have n15 : (((s[i].toNat : Nat) : Int) == 94) = false := hno 94 (by decide)
    have n16 : (((s[i].toNat : Nat) : Int) == 64) = false := hno 64 (by decide)
    clear hno hS0
    clear nz
    generalize ((s[i].toNat : Nat) : Int) = x at *
    go_enter Tryz.func58, Tryz.ntmps58
    go_wp2_with fail
    go_ret
    exact ⟨rfl, rfl⟩
set_option maxRecDepth 100000 in
set_option maxHeartbeats 8000000 in
theorem rsign_other (cap : Nat) (s : ByteArray) (hs : s.size ≤ 1048576) (i : Nat) (hi : i < s.size) (w : World) (b off : Nat) (hB : w.cell? ⟨b, off + i, none⟩ = some (.int .u8 (s[i].toNat : Int))) (hx : i + 1 < s.size) (hB2 : w.cell? ⟨b, off + (i + 1), none⟩ = some (.int .u8 (s[i + 1].toNat : Int))) (hy : s[i + 1].toNat ≠ 61) :
    Calls Tryz.prog 58 #[.slice (some ⟨b, off, none⟩) s.size cap, .int .i64 (i : Nat)] w fun e w' => e = .returned (.int .i64 ((if isS s[i] = true then 1 else 0 : Nat) : Int)) ∧ w' = w := by
  have f1 := next_at (j := i) (by omega)
  have q1 : decide (((i + 1 : Nat) : Int) < (s.size : Int)) = true := decide_eq_true (by omega)
  have e0 : (((s[i + 1].toNat : Nat) : Int) == 61) = false := by rw [beq_eq_false_iff_ne]; omega
  have nz : True := trivial
  clear hy
  generalize ((s[i + 1].toNat : Nat) : Int) = y at *
  rcases sign_cases s[i] with ⟨k, hk, hck, hS1⟩ | ⟨hS0, hno⟩
  · rw [if_pos hS1]
    rw [hck] at hB
    clear hck hS1
    simp only [List.mem_cons, List.not_mem_nil, or_false] at hk
    rcases hk with rfl | rfl | rfl | rfl | rfl | rfl | rfl | rfl | rfl | rfl | rfl | rfl | rfl | rfl | rfl | rfl | rfl
    all_goals first
      | (exfalso; revert nz; decide)
      | (
        go_enter Tryz.func58, Tryz.ntmps58
        go_wp2_with fail
        go_ret
        exact ⟨rfl, rfl⟩)
  · rw [hS0]
    have q : decide (false = true) = false := rfl
    simp only [Bool.false_eq_true, if_false]
    have n0 : (((s[i].toNat : Nat) : Int) == 123) = false := hno 123 (by decide)
    have n1 : (((s[i].toNat : Nat) : Int) == 125) = false := hno 125 (by decide)
    have n2 : (((s[i].toNat : Nat) : Int) == 40) = false := hno 40 (by decide)
    have n3 : (((s[i].toNat : Nat) : Int) == 41) = false := hno 41 (by decide)
    have n4 : (((s[i].toNat : Nat) : Int) == 91) = false := hno 91 (by decide)
    have n5 : (((s[i].toNat : Nat) : Int) == 93) = false := hno 93 (by decide)
    have n6 : (((s[i].toNat : Nat) : Int) == 44) = false := hno 44 (by decide)
    have n7 : (((s[i].toNat : Nat) : Int) == 58) = false := hno 58 (by decide)
    have n8 : (((s[i].toNat : Nat) : Int) == 59) = false := hno 59 (by decide)
    have n9 : (((s[i].toNat : Nat) : Int) == 61) = false := hno 61 (by decide)
    have n10 : (((s[i].toNat : Nat) : Int) == 60) = false := hno 60 (by decide)
    have n11 : (((s[i].toNat : Nat) : Int) == 43) = false := hno 43 (by decide)
    have n12 : (((s[i].toNat : Nat) : Int) == 45) = false := hno 45 (by decide)
    have n13 : (((s[i].toNat : Nat) : Int) == 42) = false := hno 42 (by decide)
    have n14 : (((s[i].toNat : Nat) : Int) == 47) = false := hno 47 (by decide)
    have n15 : (((s[i].toNat : Nat) : Int) == 94) = false := hno 94 (by decide)
    have n16 : (((s[i].toNat : Nat) : Int) == 64) = false := hno 64 (by decide)
    clear hno hS0
    clear nz
    generalize ((s[i].toNat : Nat) : Int) = x at *
    go_enter Tryz.func58, Tryz.ntmps58
    go_wp2_with fail
    go_ret
    exact ⟨rfl, rfl⟩
set_option maxRecDepth 100000 in
set_option maxHeartbeats 8000000 in
theorem rsign_one (cap : Nat) (s : ByteArray) (hs : s.size ≤ 1048576) (i : Nat) (hi : i < s.size) (w : World) (b off : Nat) (hB : w.cell? ⟨b, off + i, none⟩ = some (.int .u8 (s[i].toNat : Int))) (hx : i + 1 < s.size) (hB2 : w.cell? ⟨b, off + (i + 1), none⟩ = some (.int .u8 61)) (nz : ¬ (s[i].toNat = 61 ∨ s[i].toNat = 33 ∨ s[i].toNat = 60)) :
    Calls Tryz.prog 58 #[.slice (some ⟨b, off, none⟩) s.size cap, .int .i64 (i : Nat)] w fun e w' => e = .returned (.int .i64 ((if isS s[i] = true then 1 else 0 : Nat) : Int)) ∧ w' = w := by
  have f1 := next_at (j := i) (by omega)
  have q1 : decide (((i + 1 : Nat) : Int) < (s.size : Int)) = true := decide_eq_true (by omega)
  have z1 : (((s[i].toNat : Nat) : Int) == 61) = false := by rw [beq_eq_false_iff_ne]; omega
  have z2 : (((s[i].toNat : Nat) : Int) == 33) = false := by rw [beq_eq_false_iff_ne]; omega
  have z3 : (((s[i].toNat : Nat) : Int) == 60) = false := by rw [beq_eq_false_iff_ne]; omega
  rcases sign_cases s[i] with ⟨k, hk, hck, hS1⟩ | ⟨hS0, hno⟩
  · rw [if_pos hS1]
    rw [hck] at hB nz z1 z2 z3
    clear hck hS1
    simp only [List.mem_cons, List.not_mem_nil, or_false] at hk
    rcases hk with rfl | rfl | rfl | rfl | rfl | rfl | rfl | rfl | rfl | rfl | rfl | rfl | rfl | rfl | rfl | rfl | rfl
    all_goals first
      | (exfalso; revert nz; decide)
      | (
        go_enter Tryz.func58, Tryz.ntmps58
        go_wp2_with fail
        go_ret
        exact ⟨rfl, rfl⟩)
  · rw [hS0]
    have q : decide (false = true) = false := rfl
    simp only [Bool.false_eq_true, if_false]
    have n0 : (((s[i].toNat : Nat) : Int) == 123) = false := hno 123 (by decide)
    have n1 : (((s[i].toNat : Nat) : Int) == 125) = false := hno 125 (by decide)
    have n2 : (((s[i].toNat : Nat) : Int) == 40) = false := hno 40 (by decide)
    have n3 : (((s[i].toNat : Nat) : Int) == 41) = false := hno 41 (by decide)
    have n4 : (((s[i].toNat : Nat) : Int) == 91) = false := hno 91 (by decide)
    have n5 : (((s[i].toNat : Nat) : Int) == 93) = false := hno 93 (by decide)
    have n6 : (((s[i].toNat : Nat) : Int) == 44) = false := hno 44 (by decide)
    have n7 : (((s[i].toNat : Nat) : Int) == 58) = false := hno 58 (by decide)
    have n8 : (((s[i].toNat : Nat) : Int) == 59) = false := hno 59 (by decide)
    have n9 : (((s[i].toNat : Nat) : Int) == 61) = false := hno 61 (by decide)
    have n10 : (((s[i].toNat : Nat) : Int) == 60) = false := hno 60 (by decide)
    have n11 : (((s[i].toNat : Nat) : Int) == 43) = false := hno 43 (by decide)
    have n12 : (((s[i].toNat : Nat) : Int) == 45) = false := hno 45 (by decide)
    have n13 : (((s[i].toNat : Nat) : Int) == 42) = false := hno 42 (by decide)
    have n14 : (((s[i].toNat : Nat) : Int) == 47) = false := hno 47 (by decide)
    have n15 : (((s[i].toNat : Nat) : Int) == 94) = false := hno 94 (by decide)
    have n16 : (((s[i].toNat : Nat) : Int) == 64) = false := hno 64 (by decide)
    clear hno hS0
    clear nz
    generalize ((s[i].toNat : Nat) : Int) = x at *
    go_enter Tryz.func58, Tryz.ntmps58
    go_wp2_with fail
    go_ret
    exact ⟨rfl, rfl⟩
set_option maxRecDepth 100000 in
set_option maxHeartbeats 8000000 in
theorem rsign_two (cap : Nat) (s : ByteArray) (hs : s.size ≤ 1048576) (i : Nat) (hi : i < s.size) (w : World) (b off : Nat) (hB : w.cell? ⟨b, off + i, none⟩ = some (.int .u8 (s[i].toNat : Int))) (hx : i + 1 < s.size) (hB2 : w.cell? ⟨b, off + (i + 1), none⟩ = some (.int .u8 61)) (nz : s[i].toNat = 61 ∨ s[i].toNat = 33 ∨ s[i].toNat = 60) :
    Calls Tryz.prog 58 #[.slice (some ⟨b, off, none⟩) s.size cap, .int .i64 (i : Nat)] w fun e w' => e = .returned (.int .i64 2) ∧ w' = w := by
  have f1 := next_at (j := i) (by omega)
  have q1 : decide (((i + 1 : Nat) : Int) < (s.size : Int)) = true := decide_eq_true (by omega)
  rcases nz with h | h | h
  all_goals rw [h] at hB
  all_goals clear h
  all_goals (
        go_enter Tryz.func58, Tryz.ntmps58
        go_wp2_with fail
        go_ret
        exact ⟨rfl, rfl⟩)
theorem rsign_any (a0 : Option Addr) (n0 cap : Nat) (s : ByteArray) (hs : s.size ≤ 1048576) (i : Nat) (hi : i < s.size) (w : World) (hS : Bs w a0 n0 cap s) :
    Calls Tryz.prog 58 #[.slice a0 n0 cap, .int .i64 (i : Nat)] w fun e w' => e = .returned (.int .i64 (sgN (s.data.toList.drop i) : Nat)) ∧ w' = w := by
  have hn0 := hS.hn
  subst hn0
  rw [sgN_at s hi]
  obtain ⟨b, off, rfl, hB⟩ := hS.at hi
  by_cases hx : i + 1 < s.size
  · obtain ⟨b2, off2, hab, hB2⟩ := hS.at hx
    cases hab
    have hh := next_head s hx
    by_cases hy : s[i + 1].toNat = 61
    · rw [hy] at hB2
      by_cases nz : s[i].toNat = 61 ∨ s[i].toNat = 33 ∨ s[i].toNat = 60
      · rw [if_pos ⟨nz, hh.2 hy⟩]
        exact rsign_two cap s hs i hi w b off hB hx hB2 nz
      · rw [if_neg fun h => nz h.1]
        exact rsign_one cap s hs i hi w b off hB hx hB2 nz
    · rw [if_neg fun h => hy (hh.1 h.2)]
      exact rsign_other cap s hs i hi w b off hB hx hB2 hy
  · rw [if_neg fun h => by rw [no_head s hx] at h; cases h.2]
    exact rsign_last cap s hs i hi w b off hB hx
end Go.Proofs.YtkfciilclfhabaaGreatDoor

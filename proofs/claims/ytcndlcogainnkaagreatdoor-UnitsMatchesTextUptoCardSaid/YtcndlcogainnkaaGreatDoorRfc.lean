/-
  The reference's factor.
-/
import Derived.Test.YtcndlcogainnkaaGreatDoorRfp
import Derived.Test.YtcndlcogainnkaaGreatDoorRft
import Derived.Test.YtcndlcogainnkaaGreatDoorSpl
namespace Go.Proofs.YtcndlcogainnkaaGreatDoor
open Go.RowKit dec

theorem at_drop (s : ByteArray) {j : Nat} (h : j < s.size) : s.data.toList.drop j = s[j] :: s.data.toList.drop (j + 1) := by
  have h' : j < s.data.toList.length := by rw [str_len]; exact h
  rw [List.drop_eq_getElem_cons h']
  rfl
theorem rf_next {s : ByteArray} {j : Nat} (h : j < s.size) (h1 : (94 : UInt8) ∉ s.data.toList.take j) (h2 : s[j] ≠ 94) : (94 : UInt8) ∉ s.data.toList.take (j + 1) := by
  have h' : j < s.data.toList.length := by rw [str_len]; exact h
  rw [List.take_succ_eq_append_getElem h', List.mem_append, List.mem_singleton]
  rintro (h3 | h3)
  · exact h1 h3
  · exact h2 h3.symm
theorem rf_hit {s : ByteArray} {j : Nat} (h : j < s.size) (h1 : (94 : UInt8) ∉ s.data.toList.take j) (h2 : s[j] = 94) : rfac s.data.toList = (s.extract 0 j, fdv (s.data.toList.drop (j + 1))) := by
  have hl : (s.data.toList.take j).length = j := by rw [List.length_take, str_len]; omega
  have e : s.data.toList = s.data.toList.take j ++ 94 :: s.data.toList.drop (j + 1) := by
    have := List.take_append_drop j s.data.toList
    rw [at_drop s h, h2] at this
    exact this.symm
  have hi : Lib.indexByte s.data.toList 94 = (j : Nat) := by
    rw [e, ix_at _ _ _ h1, hl]
  unfold rfac
  rw [hi, if_neg (by omega), Int.toNat_natCast]
  refine Prod.ext ?_ rfl
  refine ba_ext ?_
  rw [ext_zero]
theorem rf_none {s : ByteArray} {j : Nat} (h : s.size ≤ j) (h1 : (94 : UInt8) ∉ s.data.toList.take j) : rfac s.data.toList = (s, 1) := by
  rw [List.take_of_length_le (by rw [str_len]; exact h)] at h1
  unfold rfac
  rw [if_pos (ix_out h1)]
end Go.Proofs.YtcndlcogainnkaaGreatDoor

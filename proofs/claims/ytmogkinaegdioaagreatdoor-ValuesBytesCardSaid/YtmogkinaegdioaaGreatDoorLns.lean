/-
  Lengths of texts; what the law on numbers asks, as plain facts.
-/
import Derived.Test.YtmogkinaegdioaaGreatDoorWSho
namespace Go.Proofs.YtmogkinaegdioaaGreatDoor
open Go.RowKit dec

theorem bod_len {u : Nat} (h : u < 18446744073709551616) : (bod u).length ≤ 27 := by
  have := dig_len (u / 1000000) (by omega)
  unfold bod
  rw [List.length_append, List.length_cons, frac_len]
  omega
theorem fo_len {x : Int} (h1 : -9223372036854775808 ≤ x) (h2 : x ≤ 9223372036854775807) : (foX x).length ≤ 28 := by
  rw [fo_eq, List.length_append]
  have := bod_len (u := x.natAbs) (by omega)
  split
  · rw [List.length_singleton]; omega
  · rw [List.length_nil]; omega
theorem itoa_len {x : Int} (h1 : -9223372036854775808 ≤ x) (h2 : x ≤ 9223372036854775807) : (Lib.itoa x).length ≤ 28 := by
  have := dig_len x.natAbs (by omega)
  unfold Lib.itoa
  split
  · simp; omega
  · rw [show x.toNat = x.natAbs by omega]; omega
theorem fm_len (v : Va) : (fm v).length ≤ 100 := by
  cases h : ok v
  · rw [fm_no h]; decide
  · rw [fm_ok h]
    rcases ok_cases h with rfl | rfl | rfl | ⟨n, rfl, h1, h2⟩ | ⟨n, rfl, h1, h2⟩ | ⟨s, rfl, h1, h2⟩ | ⟨s, rfl, h0, h1, h2⟩
    · decide
    · decide
    · decide
    · show (Lib.itoa n).length ≤ 100
      have := itoa_len (x := n) (by omega) (by omega)
      omega
    · show (foX n).length ≤ 100
      have := fo_len (x := n) (by omega) (by omega)
      omega
    · show (34 :: (s.data.toList ++ [34])).length ≤ 100
      rw [List.length_cons, List.length_append, List.length_singleton, ← Lib.size_eq]
      omega
    · show (64 :: s.data.toList).length ≤ 100
      rw [List.length_cons, ← Lib.size_eq]
      omega
theorem st_size (l : List UInt8) : (⟨l.toArray⟩ : ByteArray).size = l.length := rfl
theorem st_list (l : List UInt8) : (⟨l.toArray⟩ : ByteArray).data.toList = l := rfl
theorem st_toList (l : List UInt8) : (⟨l.toArray⟩ : ByteArray).toList = l := by rw [ByteArray.toList_eq]
theorem less_dec (m n : Int) : decide (cV ⟨3, m, ⟨#[]⟩⟩ ⟨3, n, ⟨#[]⟩⟩ < 0) = decide (m < n) := by
  have e : cV ⟨3, m, ⟨#[]⟩⟩ ⟨3, n, ⟨#[]⟩⟩ = if cI m n = 0 then 0 else cI m n := by
    rw [cV_eq]
    show (if cI 3 3 = 0 then (if cI m n = 0 then cS ⟨#[]⟩ ⟨#[]⟩ else cI m n) else cI 3 3) = _
    rw [(good_cI.eq 3 3).2 rfl, if_pos rfl, (good_cS.eq ⟨#[]⟩ ⟨#[]⟩).2 rfl]
  have h : cI m n = if m < n then -1 else if n < m then 1 else 0 := by
    unfold cI Lib.compareInt
    repeat' split
    all_goals first | rfl | omega
  rw [e, h]
  by_cases h1 : m < n
  · simp [h1]
  · rw [decide_eq_false h1]
    by_cases h2 : n < m
    · simp [h1, h2]
    · simp [h1, h2]
theorem big_ck {m : Int} (h : m < -1152921504606846976 ∨ 1152921504606846976 < m) : ck ⟨3, m, ⟨#[]⟩⟩ = 2 := by
  have hr : rg m = false := by
    rw [Bool.eq_false_iff]
    intro e
    have := (rg_iff m).1 e
    omega
  simp [ck, fmd, lmt, hr]
  rfl
end Go.Proofs.YtmogkinaegdioaaGreatDoor

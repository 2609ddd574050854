/-
  Facts on parts: how they follow one another; the tumbling window.
-/
import Derived.Test.YtdhdofgdeljajaaRbk
namespace Go.Proofs.Ytdhdofgdeljajaa

theorem ediv_of {s k v : Int} (hs : 1 ≤ s) (h1 : k * s ≤ v) (h2 : v < k * s + s) : v / s = k := by
  apply Int.le_antisymm
  · have : v / s < k + 1 := by
      apply Int.ediv_lt_of_lt_mul (by omega)
      rw [Int.add_mul, Int.one_mul]
      exact h2
    omega
  · exact Int.le_ediv_of_mul_le (by omega) h1
theorem lt_up {v s : Int} (hs : 1 ≤ s) : v < v / s * s + s := by
  have h1 := Int.mul_ediv_add_emod v s
  have h2 := Int.emod_lt_of_pos v (show 0 < s by omega)
  rw [Int.mul_comm] at h1
  omega
/-- What a list of parts is, place by place. -/
structure Pt (x y s : Int) (P : List I2) : Prop where
  first : ∀ m, P.length = m + 1 → (gt P 0).1 = x ∧ (gt P m).2 = y
  next : ∀ k, k + 1 < P.length → (gt P (k + 1)).1 = (gt P k).2 + 1
  same : ∀ k, k < P.length → (gt P k).2.tdiv s = (gt P k).1.tdiv s
  size : P ≠ [] → 1 ≤ s ∧ s ≤ 1099511627776
  tick : ∀ k, k < P.length → 0 ≤ (gt P k).1 ∧ (gt P k).1 ≤ (gt P k).2 ∧ (gt P k).2 ≤ 1099511627776
  len : P.length ≤ 4096
theorem gt_map (f : Nat → I2) {n k : Nat} (h : k < n) : gt ((List.range n).map f) k = f k := by
  rw [gt_eq (by simpa using h)]
  simp
theorem pt_buk (x y s : Int) : Pt x y s (buk (x, y) s) := by
  unfold buk cnt
  split
  · rename_i h
    simp only [Bool.and_eq_true, decide_eq_true_eq] at h
    obtain ⟨h1, h2, h3⟩ := h
    have K := bk_of ((okI_iff _).1 h1) h2
    have hx1 : x / s * s ≤ x := Int.ediv_mul_le x (by have := K.s0; omega)
    have hx2 : x < x / s * s + s := lt_up K.s0
    have hy2 : y < y / s * s + s := lt_up K.s0
    have hc := K.cs
    simp only at h3 ⊢
    have hs1 := K.s1
    generalize x / s = a at *
    generalize y / s = c at *
    obtain ⟨k1, k2, k3, k4, k5, k6, k7, k8, k9⟩ := K
    have mle : ∀ {u v : Int}, u ≤ v → u * s ≤ v * s := fun h => Int.mul_le_mul_of_nonneg_right h (by omega)
    have mul1 : ∀ u : Int, (u + 1) * s = u * s + s := fun u => by rw [Int.add_mul, Int.one_mul]
    have key : ∀ k : Nat, k < (c - a + 1).toNat → a * s ≤ (a + (k : Int)) * s ∧ (a + (k : Int)) * s ≤ c * s ∧ (k = 0 ∨ a * s + s ≤ (a + (k : Int)) * s) ∧ ((k : Int) = c - a ∨ (a + (k : Int)) * s + s ≤ c * s) := by
      intro k hk
      refine ⟨mle (by omega), mle (by omega), ?_, ?_⟩
      · by_cases h0 : k = 0
        · exact .inl h0
        · refine .inr ?_
          rw [← mul1]
          exact mle (by omega)
      · by_cases h0 : (k : Int) = c - a
        · exact .inl h0
        · refine .inr ?_
          rw [← mul1]
          exact mle (by omega)
    have val : ∀ k : Nat, k < (c - a + 1).toNat → gt ((List.range (c - a + 1).toNat).map fun j : Nat => part (x, y) s (a + (j : Int))) k = (max x ((a + (k : Int)) * s), min y ((a + (k : Int)) * s + s - 1)) := fun k hk => gt_map _ hk
    have z0 : 0 ≤ a * s := Int.mul_nonneg k6 (by omega)
    refine ⟨fun m hm => ?_, fun k hk => ?_, fun k hk => ?_, fun _ => ⟨k4, hs1⟩, fun k hk => ?_, by simp; omega⟩
    · simp only [List.length_map, List.length_range] at hm
      rw [val 0 (by omega), val m (by omega)]
      have e0 : (a + ((0 : Nat) : Int)) * s = a * s := by simp
      have e1 : (a + (m : Int)) * s = c * s := by congr 1; omega
      rw [e0, e1]
      simp only
      omega
    · simp only [List.length_map, List.length_range] at hk
      rw [val k (by omega), val (k + 1) hk]
      have q1 := key (k + 1) hk
      have q2 := key k (by omega)
      have e1 : (a + ((k + 1 : Nat) : Int)) * s = (a + (k : Int)) * s + s := by rw [← mul1]; congr 1; omega
      rw [e1] at q1 ⊢
      simp only
      omega
    · simp only [List.length_map, List.length_range] at hk
      rw [val k hk]
      have q1 := key k hk
      simp only
      have u1 : 0 ≤ max x ((a + (k : Int)) * s) := by omega
      have u2 : 0 ≤ min y ((a + (k : Int)) * s + s - 1) := by omega
      rw [Int.tdiv_eq_ediv_of_nonneg u1, Int.tdiv_eq_ediv_of_nonneg u2, ediv_of (k := a + (k : Int)) k4 (by omega) (by omega), ediv_of (k := a + (k : Int)) k4 (by omega) (by omega)]
    · simp only [List.length_map, List.length_range] at hk
      rw [val k hk]
      have q1 := key k hk
      simp only
      omega
  · exact ⟨fun m hm => by simp at hm, fun k hk => by simp at hk, fun k hk => by simp at hk, fun h => absurd rfl h, fun k hk => by simp at hk, by simp⟩
/-- The window that tumbles is the last part. -/
theorem tumble {s t : Int} (hs : isz s = true) (ht : 0 ≤ t ∧ t ≤ 1099511627776) :
    ∃ m, (buk (max 0 (t / s - 3) * s, t) s).length = m + 1 ∧ gt (buk (max 0 (t / s - 3) * s, t) s) m = (t - t % s, t) ∧ 0 ≤ t / s ∧ t / s ≤ 1099511627776 ∧ 0 ≤ max 0 (t / s - 3) * s ∧ max 0 (t / s - 3) * s ≤ t := by
  obtain ⟨s0, s1⟩ := (isz_iff s).1 hs
  have hb := Int.ediv_mul_le t (show s ≠ 0 by omega)
  have hb2 : t < t / s * s + s := lt_up s0
  have he : t - t % s = t / s * s := by have := Int.mul_ediv_add_emod t s; rw [Int.mul_comm] at this; omega
  have h0 : 0 ≤ t / s := Int.ediv_nonneg ht.1 (by omega)
  have h6 : t / s * 1 ≤ t / s * s := Int.mul_le_mul_of_nonneg_left s0 h0
  rw [he]
  generalize t / s = b at *
  obtain ⟨a, ha⟩ : ∃ a, max 0 (b - 3) = a := ⟨_, rfl⟩
  rw [ha]
  have ha1 : 0 ≤ a ∧ a ≤ b ∧ b - a ≤ 3 := by omega
  have m1 : a * s ≤ b * s := Int.mul_le_mul_of_nonneg_right ha1.2.1 (by omega)
  have m0 : 0 ≤ a * s := Int.mul_nonneg ha1.1 (by omega)
  have d1 : a * s / s = a := Int.mul_ediv_cancel _ (by omega)
  have hok : okI (a * s, t) = true := (okI_iff _).2 ⟨m0, by simp only; omega, ht.2⟩
  have hb3 : t / s = b := ediv_of s0 hb hb2
  refine ⟨(b - a).toNat, ?_, ?_, h0, by omega, m0, by omega⟩
  · unfold buk cnt
    simp only [d1, hb3]
    rw [hok, hs, decide_eq_true (show b - a < 4096 by omega)]
    simp
    omega
  · unfold buk cnt
    simp only [d1, hb3]
    rw [hok, hs, decide_eq_true (show b - a < 4096 by omega)]
    simp only [Bool.and_self, if_true]
    rw [gt_map _ (by omega)]
    unfold part
    simp only
    have e : a + ((b - a).toNat : Int) = b := by omega
    rw [e]
    refine Prod.ext ?_ ?_
    · simp only; omega
    · simp only; omega
end Go.Proofs.Ytdhdofgdeljajaa

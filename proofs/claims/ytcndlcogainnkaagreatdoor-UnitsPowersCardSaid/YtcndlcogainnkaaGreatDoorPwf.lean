/-
  Powers of a unit as plain data.
-/
import Derived.Test.YtcndlcogainnkaaGreatDoorExa
namespace Go.Proofs.YtcndlcogainnkaaGreatDoor
open Go.RowKit dec

def rep : Nat → List Fa → List Fa
  | 0, _ => []
  | k + 1, l => rep k l ++ l
theorem ex_rep (l : List Fa) (n : ByteArray) : ∀ k : Nat, ex (rep k l) n = ex l n * (k : Int)
  | 0 => by simp [rep, ex]
  | k + 1 => by
    rw [rep, ex_append, ex_rep l n k]
    push_cast
    rw [Int.mul_add]
    omega
theorem rep_len (l : List Fa) : ∀ k : Nat, (rep k l).length = k * l.length
  | 0 => by simp [rep]
  | k + 1 => by rw [rep, List.length_append, rep_len l k, Nat.add_mul]; omega
theorem rep_mem {l : List Fa} {x : Fa} : ∀ {k : Nat}, x ∈ rep k l → x ∈ l
  | 0, h => by simp [rep] at h
  | k + 1, h => by
    rw [rep] at h
    rcases List.mem_append.1 h with h | h
    · exact rep_mem h
    · exact h
/-- Some exponent of the power is out of range. -/
def fr (k : Nat) (l : List Fa) : Bool := l.any fun x => far (x.2 * (k : Int))
theorem fr_next {k : Nat} {l : List Fa} {j : Nat} (h : j < l.length) : fr k (l.take (j + 1)) = (fr k (l.take j) || far ((gt l j).2 * (k : Int))) := by
  rw [take_gt h]
  unfold fr
  rw [List.any_append]
  simp
theorem rep_wds {k : Nat} {l : List Fa} (h : Ok l) : wds (rep k l) = true := wds_iff.2 fun x hx => (h.good x (rep_mem hx)).1
theorem pw_far {k : Nat} {l : List Fa} (h : Ok l) (hf : fr k l = true) : nE (rep k l) = 70 := by
  unfold fr at hf
  rw [List.any_eq_true] at hf
  obtain ⟨x, hx, hf⟩ := hf
  exact (nE_far (rep_wds h) ((anyFar_iff _).2 ⟨x.1, by rw [ex_rep, ex_srt h.srt x hx]; exact hf⟩)).1
theorem pw_ok {k : Nat} {l : List Fa} (h : Ok l) (hf : fr k l = false) (hk : 0 < k) : nE (rep k l) = 0 ∧ nL (rep k l) = sc (k : Int) l := by
  have hu : Ok (sc (k : Int) l) := by
    refine ⟨by simpa [sc] using h.le, fun x hx => ?_, ?_⟩
    · unfold sc at hx
      rw [List.mem_map] at hx
      obtain ⟨y, hy, rfl⟩ := hx
      obtain ⟨a, b, _⟩ := h.good y hy
      refine ⟨a, ?_, ?_⟩
      · show y.2 * (k : Int) ≠ 0
        exact Int.mul_ne_zero b (by omega)
      · cases hg : far (y.2 * (k : Int))
        · rfl
        · unfold fr at hf
          rw [List.any_eq_false] at hf
          exact absurd hg (hf y hy)
    · unfold sc Srt
      rw [List.pairwise_map]
      exact h.srt
  obtain ⟨a, b⟩ := n_congr (rep_wds (k := k) h) hu.wds fun n => by rw [ex_rep, ex_sc]
  obtain ⟨c, d⟩ := n_ok hu
  exact ⟨a.trans c, b.trans d⟩
theorem gt_sc {k : Nat} {l : List Fa} {j : Nat} (h : j < l.length) : gt (sc (k : Int) l) j = ((gt l j).1, (gt l j).2 * (k : Int)) := by
  rw [gt_eq (by simpa [sc] using h), gt_eq h]
  simp [sc]
theorem sc_len (p : Int) (l : List Fa) : (sc p l).length = l.length := by simp [sc]
theorem small_mul {x : Int} {k : Nat} (h : -8 ≤ x ∧ x ≤ 8) (hk : k < 20) : wrap64 (x * (k : Int)) = x * (k : Int) := by
  have h1 : x * (k : Int) ≤ 8 * (k : Int) := Int.mul_le_mul_of_nonneg_right h.2 (by omega)
  have h2 : -8 * (k : Int) ≤ x * (k : Int) := Int.mul_le_mul_of_nonneg_right h.1 (by omega)
  generalize x * (k : Int) = z at *
  unfold wrap64
  omega
theorem rep_facts {l : List Fa} (h : Ok l) {k : Nat} (hk : k < 20) : (∀ x ∈ rep k l, -9223372036854775808 ≤ x.2 ∧ x.2 ≤ 9223372036854775807) ∧ (rep k l).length ≤ 76 := by
  refine ⟨fun x hx => by have := far_le (h.good x (rep_mem hx)).2.2; omega, ?_⟩
  rw [rep_len]
  have := h.le
  calc k * l.length ≤ 19 * 4 := Nat.mul_le_mul (by omega) this
    _ = 76 := rfl
theorem bounds_u8 {n : Int} (h : (Lit.int .u8 n).wf = true) : 0 ≤ n ∧ n ≤ 255 := by
  have hmin : IntKind.u8.min = 0 := rfl
  have hmax : IntKind.u8.max = 255 := rfl
  simp only [Lit.wf, Bool.and_eq_true, decide_eq_true_eq] at h
  omega
theorem nat_u8 {n : Int} (h : (Lit.int .u8 n).wf = true) : ∃ N : Nat, n = (N : Int) ∧ N < 256 := ⟨n.toNat, by have := bounds_u8 h; omega, by have := bounds_u8 h; omega⟩
end Go.Proofs.YtcndlcogainnkaaGreatDoor

/-
  Sums over the first k numbers, in any order.
-/
import Derived.Test.YtdppmppipbbepaaNum
namespace Go.Proofs.Ytdppmppipbbepaa

/-- g 0 + .. + g (k - 1). -/
def sm (g : Nat → Int) : Nat → Int
  | 0 => 0
  | k + 1 => sm g k + g k
theorem sm_congr {g h : Nat → Int} (n : Nat) (e : ∀ j, j < n → g j = h j) : sm g n = sm h n := by
  induction n with
  | zero => rfl
  | succ n ih => simp only [sm]; rw [ih (fun j hj => e j (by omega)), e n (by omega)]
theorem sm_add (g : Nat → Int) (a b : Nat) : sm g (a + b) = sm g a + sm (fun i => g (a + i)) b := by
  induction b with
  | zero => simp [sm]
  | succ b ih => rw [← Nat.add_assoc]; simp only [sm]; rw [ih]; omega
theorem sm_rev (g : Nat → Int) (n : Nat) : sm (fun j => g (n - 1 - j)) n = sm g n := by
  induction n generalizing g with
  | zero => rfl
  | succ n ih =>
    have hr : sm g (n + 1) = g 0 + sm (fun i => g (1 + i)) n := by
      rw [show n + 1 = 1 + n from by omega, sm_add]; simp [sm]
    have h2 : sm (fun j => g (n + 1 - 1 - j)) n = sm (fun i => g (1 + i)) n := (sm_congr (h := fun j => g (1 + (n - 1 - j))) n (fun j hj => by
      show g (n + 1 - 1 - j) = g (1 + (n - 1 - j))
      congr 1; omega)).trans (ih (fun i => g (1 + i)))
    have h3 : g (n + 1 - 1 - n) = g 0 := by congr 1; omega
    show sm (fun j => g (n + 1 - 1 - j)) n + g (n + 1 - 1 - n) = sm g (n + 1)
    rw [h2, h3, hr]; omega
theorem sm_turn (g : Nat → Int) (n r : Nat) (hn : 0 < n) : sm (fun i => g ((i + r) % n)) n = sm g n := by
  have hr : r % n < n := Nat.mod_lt _ hn
  obtain ⟨m, hm⟩ : ∃ m, n = (n - r % n) + r % n ∧ m = n - r % n := ⟨n - r % n, by omega, rfl⟩
  have h1 : sm (fun i => g ((i + r) % n)) n = sm (fun i => g ((i + r) % n)) ((n - r % n) + r % n) := by rw [← hm.1]
  have h2 : sm g n = sm g (r % n + (n - r % n)) := by congr 1; omega
  rw [h1, h2, sm_add, sm_add]
  have e1 : sm (fun i => g ((i + r) % n)) (n - r % n) = sm (fun i => g (r % n + i)) (n - r % n) := sm_congr _ (fun j hj => by
    show g ((j + r) % n) = g (r % n + j)
    congr 1
    rw [Nat.add_mod, Nat.mod_eq_of_lt (show j < n by omega), Nat.mod_eq_of_lt (by omega)]; omega)
  have e2 : sm (fun i => g ((n - r % n + i + r) % n)) (r % n) = sm g (r % n) := sm_congr _ (fun j hj => by
    congr 1
    have : n - r % n + j + r = n * (1 + r / n) + j := by
      have := Nat.div_add_mod r n
      rw [Nat.mul_add]; omega
    rw [this, Nat.mul_add_mod, Nat.mod_eq_of_lt (by omega)])
  rw [e1]
  have e2' : sm (fun i => (fun i => g ((i + r) % n)) (n - r % n + i)) (r % n) = sm g (r % n) := e2
  rw [e2']
  omega
end Go.Proofs.Ytdppmppipbbepaa

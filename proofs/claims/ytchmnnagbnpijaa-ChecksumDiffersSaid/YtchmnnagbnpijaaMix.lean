/-
  Plain arithmetic of the hash: mixing is one to one.
-/
import Derived.Test.YtchmnnagbnpijaaCrc
namespace Go.Proofs.Ytchmnnagbnpijaa

theorem xor64 {a b : Nat} (ha : a < 18446744073709551616) (hb : b < 18446744073709551616) : a ^^^ b < 18446744073709551616 := Nat.xor_lt_two_pow (n := 64) ha hb
theorem xor_div (a b s : Nat) : (a ^^^ b) / 2 ^ s = a / 2 ^ s ^^^ b / 2 ^ s := by
  rw [← Nat.shiftRight_eq_div_pow, ← Nat.shiftRight_eq_div_pow, ← Nat.shiftRight_eq_div_pow, Nat.shiftRight_xor_distrib]
theorem xsh_inj {x y : Nat} (s : Nat) (hs : 0 < s) (h : x ^^^ x / 2 ^ s = y ^^^ y / 2 ^ s) : x = y := by
  have h1 : (x ^^^ y) ^^^ (x ^^^ y) / 2 ^ s = 0 := by
    rw [xor_div]
    have e : x ^^^ y ^^^ (x / 2 ^ s ^^^ y / 2 ^ s) = (x ^^^ x / 2 ^ s) ^^^ (y ^^^ y / 2 ^ s) := by
      generalize x / 2 ^ s = a
      generalize y / 2 ^ s = b
      apply Nat.eq_of_testBit_eq
      intro i
      simp only [Nat.testBit_xor]
      cases x.testBit i <;> cases y.testBit i <;> cases a.testBit i <;> cases b.testBit i <;> rfl
    rw [e, h, Nat.xor_self]
  have h2 : x ^^^ y = (x ^^^ y) / 2 ^ s := xor_eq_zero h1
  by_cases h0 : x ^^^ y = 0
  · exact xor_eq_zero h0
  · have : (x ^^^ y) / 2 ^ s < x ^^^ y := Nat.div_lt_self (by omega) (Nat.one_lt_two_pow (by omega))
    omega
theorem mul_inj {x y c d : Nat} (hx : x < 18446744073709551616) (hy : y < 18446744073709551616) (hcd : c * d % 18446744073709551616 = 1)
    (h : x * c % 18446744073709551616 = y * c % 18446744073709551616) : x = y := by
  have e : ∀ z, z < 18446744073709551616 → z * c % 18446744073709551616 * d % 18446744073709551616 = z := by
    intro z hz
    rw [Nat.mod_mul_mod, Nat.mul_assoc, Nat.mul_mod, hcd, Nat.mul_one, Nat.mod_mod, Nat.mod_eq_of_lt hz]
  have := e x hx
  rw [h, e y hy] at this
  exact this.symm

/-- The word x, mixed. -/
def mix1 (x : Nat) : Nat := (x ^^^ x / 1073741824) * 13787848793156543929 % 18446744073709551616
def mix2 (x : Nat) : Nat := (x ^^^ x / 134217728) * 10723151780598845931 % 18446744073709551616
def mix3 (x : Nat) : Nat := x ^^^ x / 2147483648
def mix (x : Nat) : Nat := mix3 (mix2 (mix1 x))
theorem mix1_lt (x : Nat) : mix1 x < 18446744073709551616 := Nat.mod_lt _ (by decide)
theorem mix2_lt (x : Nat) : mix2 x < 18446744073709551616 := Nat.mod_lt _ (by decide)
theorem mix_lt (x : Nat) : mix x < 18446744073709551616 := by
  have := mix2_lt (mix1 x)
  exact xor64 this (by omega)
theorem mix1_inj {x y : Nat} (hx : x < 18446744073709551616) (hy : y < 18446744073709551616) (h : mix1 x = mix1 y) : x = y :=
  xsh_inj 30 (by decide) (mul_inj (d := 10871156337175269513) (xor64 hx (by omega)) (xor64 hy (by omega)) (by decide) h)
theorem mix2_inj {x y : Nat} (hx : x < 18446744073709551616) (hy : y < 18446744073709551616) (h : mix2 x = mix2 y) : x = y :=
  xsh_inj 27 (by decide) (mul_inj (d := 3573116690164977347) (xor64 hx (by omega)) (xor64 hy (by omega)) (by decide) h)
theorem mix_inj {x y : Nat} (hx : x < 18446744073709551616) (hy : y < 18446744073709551616) (h : mix x = mix y) : x = y :=
  mix1_inj hx hy (mix2_inj (mix1_lt _) (mix1_lt _) (xsh_inj 31 (by decide) h))

/-- The k lowest bytes of the group that begins at a. -/
def grp (f : Nat → Nat) (a : Nat) : Nat → Nat
  | 0 => 0
  | k + 1 => grp f a k + f (a + k) * 256 ^ k
theorem grp_lt {f : Nat → Nat} {a : Nat} (k : Nat) (h : ∀ i, i < k → f (a + i) < 256) : grp f a k < 256 ^ k := by
  induction k with
  | zero => exact Nat.one_pos
  | succ k ih =>
    have h1 := ih fun i hi => h i (by omega)
    have h2 := h k (by omega)
    have h3 : f (a + k) * 256 ^ k ≤ 255 * 256 ^ k := Nat.mul_le_mul_right _ (by omega)
    rw [Nat.pow_succ]
    show _ + _ < _
    omega
theorem grp_congr {f g : Nat → Nat} {a : Nat} (k : Nat) (h : ∀ i, i < k → f (a + i) = g (a + i)) : grp f a k = grp g a k := by
  induction k with
  | zero => rfl
  | succ k ih => show _ + _ = _ + _; rw [ih fun i hi => h i (by omega), h k (by omega)]
theorem grp_inj {f g : Nat → Nat} {a : Nat} (k : Nat) (hf : ∀ i, i < k → f (a + i) < 256) (hg : ∀ i, i < k → g (a + i) < 256) (h : grp f a k = grp g a k) : ∀ i, i < k → f (a + i) = g (a + i) := by
  induction k with
  | zero => intro i hi; omega
  | succ k ih =>
    have h1 := grp_lt k fun i hi => hf i (by omega)
    have h2 := grp_lt k fun i hi => hg i (by omega)
    have h3 : grp f a k + f (a + k) * 256 ^ k = grp g a k + g (a + k) * 256 ^ k := h
    have hp : 0 < 256 ^ k := Nat.pow_pos (by decide)
    have e1 : (grp f a k + f (a + k) * 256 ^ k) / 256 ^ k = f (a + k) := by rw [Nat.add_mul_div_right _ _ hp, Nat.div_eq_of_lt h1, Nat.zero_add]
    have e2 : (grp g a k + g (a + k) * 256 ^ k) / 256 ^ k = g (a + k) := by rw [Nat.add_mul_div_right _ _ hp, Nat.div_eq_of_lt h2, Nat.zero_add]
    rw [h3, e2] at e1
    rw [← e1] at h3
    intro i hi
    by_cases he : i = k
    · subst he; exact e1.symm
    · exact ih (fun i hi => hf i (by omega)) (fun i hi => hg i (by omega)) (by omega) i (by omega)

/-- The hash's word after the groups that begin before a, for n bytes of f: each group has at most eight bytes. -/
def hst (f : Nat → Nat) (n h0 : Nat) : Nat → Nat
  | 0 => h0
  | j + 1 => mix (((hst f n h0 j ^^^ grp f (8 * j) (min 8 (n - 8 * j))) + 11400714819323198485) % 18446744073709551616)
/-- The hash of n bytes of f. -/
def hsh (f : Nat → Nat) (n s : Nat) : Nat := mix (hst f n (s ^^^ n * 11400714819323198485 % 18446744073709551616) ((n + 7) / 8))
theorem hst_succ (f : Nat → Nat) (n h0 j : Nat) : hst f n h0 (j + 1) = mix (((hst f n h0 j ^^^ grp f (8 * j) (min 8 (n - 8 * j))) + 11400714819323198485) % 18446744073709551616) := rfl
theorem hst_lt {f : Nat → Nat} {n h0 : Nat} (h : h0 < 18446744073709551616) (j : Nat) : hst f n h0 j < 18446744073709551616 := by
  cases j with
  | zero => exact h
  | succ j => exact mix_lt _
theorem hsh_lt (f : Nat → Nat) (n s : Nat) : hsh f n s < 18446744073709551616 := mix_lt _
theorem pow8_le {k : Nat} (h : k ≤ 8) : 256 ^ k ≤ 18446744073709551616 := by
  have : 256 ^ k ≤ 256 ^ 8 := Nat.pow_le_pow_right (by decide) h
  exact this
theorem grp_lt64 {f : Nat → Nat} {a : Nat} (k : Nat) (hk : k ≤ 8) (h : ∀ i, i < k → f (a + i) < 256) : grp f a k < 18446744073709551616 :=
  Nat.lt_of_lt_of_le (grp_lt k h) (pow8_le hk)
theorem step_inj {x y g : Nat} (hx : x < 18446744073709551616) (hy : y < 18446744073709551616) (hg : g < 18446744073709551616)
    (h : mix (((x ^^^ g) + 11400714819323198485) % 18446744073709551616) = mix (((y ^^^ g) + 11400714819323198485) % 18446744073709551616)) : x = y := by
  have h1 := mix_inj (Nat.mod_lt _ (by decide)) (Nat.mod_lt _ (by decide)) h
  have hx' := xor64 hx hg
  have hy' := xor64 hy hg
  have h2 : x ^^^ g = y ^^^ g := by omega
  have h3 := congrArg (· ^^^ g) h2
  simpa [Nat.xor_assoc] using h3
theorem group_inj {x g g' : Nat} (hx : x < 18446744073709551616) (hg : g < 18446744073709551616) (hg' : g' < 18446744073709551616)
    (h : mix (((x ^^^ g) + 11400714819323198485) % 18446744073709551616) = mix (((x ^^^ g') + 11400714819323198485) % 18446744073709551616)) : g = g' := by
  rw [Nat.xor_comm x, Nat.xor_comm x] at h
  exact step_inj hg hg' hx h
/-- From different words on, the same groups lead to different words. -/
theorem hst_inj {f g : Nat → Nat} {n m a b : Nat} (ha : a < 18446744073709551616) (hb : b < 18446744073709551616) (i : Nat) (j : Nat)
    (hf : ∀ k, grp f (8 * k) (min 8 (n - 8 * k)) < 18446744073709551616)
    (he : ∀ k, i ≤ k → k < i + j → grp f (8 * k) (min 8 (n - 8 * k)) = grp g (8 * k) (min 8 (m - 8 * k)))
    (h : hst f n a (i + j) = hst g m b (i + j)) : hst f n a i = hst g m b i := by
  induction j with
  | zero => exact h
  | succ j ih =>
    rw [← Nat.add_assoc, hst_succ, hst_succ, ← he (i + j) (by omega) (by omega)] at h
    exact ih (fun k h1 h2 => he k h1 (by omega)) (step_inj (hst_lt ha _) (hst_lt hb _) (hf _) h)
theorem grps_lt {f : Nat → Nat} {n : Nat} (hf : ∀ i, i < n → f i < 256) (k : Nat) : grp f (8 * k) (min 8 (n - 8 * k)) < 18446744073709551616 :=
  grp_lt64 _ (Nat.min_le_left _ _) fun i hi => hf _ (by omega)
theorem h0_lt {s : Nat} (hs : s < 18446744073709551616) (n : Nat) : s ^^^ n * 11400714819323198485 % 18446744073709551616 < 18446744073709551616 :=
  xor64 hs (Nat.mod_lt _ (by decide))
theorem xor_right_inj {a b c : Nat} (h : a ^^^ c = b ^^^ c) : a = b := by
  have h3 := congrArg (· ^^^ c) h
  simpa [Nat.xor_assoc] using h3
/-- Different seeds. -/
theorem hsh_seed {f : Nat → Nat} {n s t : Nat} (hf : ∀ i, i < n → f i < 256) (hs : s < 18446744073709551616) (ht : t < 18446744073709551616) (h : hsh f n s = hsh f n t) : s = t := by
  have h1 := mix_inj (hst_lt (h0_lt hs n) _) (hst_lt (h0_lt ht n) _) h
  rw [← Nat.zero_add ((n + 7) / 8)] at h1
  exact xor_right_inj (hst_inj (h0_lt hs n) (h0_lt ht n) 0 _ (grps_lt hf) (fun _ _ _ => rfl) h1)
/-- A zero byte behind them, with the same number of groups. -/
theorem hsh_zero {f g : Nat → Nat} {n s : Nat} (hf : ∀ i, i < n → f i < 256) (hs : s < 18446744073709551616) (hn : n % 8 ≠ 0) (hg : ∀ i, i < n → g i = f i) (hz : g n = 0) : hsh g (n + 1) s ≠ hsh f n s := by
  intro h
  have e : (n + 1 + 7) / 8 = (n + 7) / 8 := by omega
  unfold hsh at h
  rw [e] at h
  have h1 := mix_inj (hst_lt (h0_lt hs (n + 1)) _) (hst_lt (h0_lt hs n) _) h
  rw [← Nat.zero_add ((n + 7) / 8)] at h1
  have h2 := hst_inj (f := f) (g := g) (h0_lt hs n) (h0_lt hs (n + 1)) 0 _ (grps_lt hf) (fun k _ hk => ?_) h1.symm
  · have h3 := xor_right_inj (show n * 11400714819323198485 % 18446744073709551616 ^^^ s = (n + 1) * 11400714819323198485 % 18446744073709551616 ^^^ s by rw [Nat.xor_comm, Nat.xor_comm _ s]; exact h2)
    omega
  · by_cases h8 : 8 * k + 8 ≤ n
    · rw [Nat.min_eq_left (by omega), Nat.min_eq_left (by omega)]
      exact grp_congr 8 fun i hi => (hg _ (by omega)).symm
    · rw [Nat.min_eq_right (by omega), Nat.min_eq_right (by omega), show n + 1 - 8 * k = n - 8 * k + 1 by omega]
      show _ = grp g (8 * k) (n - 8 * k) + g (8 * k + (n - 8 * k)) * _
      rw [show 8 * k + (n - 8 * k) = n by omega, hz, Nat.zero_mul, Nat.add_zero]
      exact grp_congr _ fun i hi => (hg _ (by omega)).symm
theorem hst_congr {f g : Nat → Nat} {n a : Nat} (i : Nat) (h : ∀ k, k < 8 * i → k < n → f k = g k) : hst f n a i = hst g n a i := by
  induction i with
  | zero => rfl
  | succ i ih =>
    rw [hst_succ, hst_succ, ih fun k h1 h2 => h k (by omega) h2, grp_congr (f := f) (g := g) _ fun k hk => h _ (by omega) (by omega)]
theorem hsh_congr {f g : Nat → Nat} {n s : Nat} (h : ∀ k, k < n → f k = g k) : hsh f n s = hsh g n s := by
  unfold hsh
  rw [hst_congr _ fun k _ h2 => h k h2]
/-- Bytes that differ in one group. -/
theorem hsh_group {f g : Nat → Nat} {n s : Nat} (hf : ∀ i, i < n → f i < 256) (hg : ∀ i, i < n → g i < 256) (hs : s < 18446744073709551616) (k : Nat) (hk : 8 * k < n)
    (ho : ∀ i, i < n → i / 8 ≠ k → f i = g i) (h : hsh f n s = hsh g n s) : ∀ i, i < n → f i = g i := by
  have h1 := mix_inj (hst_lt (h0_lt hs n) _) (hst_lt (h0_lt hs n) _) h
  obtain ⟨j, hj⟩ : ∃ j, (n + 7) / 8 = (k + 1) + j := ⟨(n + 7) / 8 - (k + 1), by omega⟩
  rw [hj] at h1
  have h2 := hst_inj (h0_lt hs n) (h0_lt hs n) (k + 1) j (grps_lt hf) (fun l h3 h4 => grp_congr _ fun i hi => ho _ (by omega) (by omega)) h1
  rw [hst_succ, hst_succ, ← hst_congr (f := f) (g := g) k fun i h3 h4 => ho i h4 (by omega)] at h2
  have h5 := group_inj (hst_lt (h0_lt hs n) _) (grps_lt hf k) (grps_lt hg k) h2
  have h6 := grp_inj _ (fun i hi => hf _ (by omega)) (fun i hi => hg _ (by omega)) h5
  intro i hi
  by_cases he : i / 8 = k
  · have := h6 (i - 8 * k) (by omega)
    rwa [show 8 * k + (i - 8 * k) = i by omega] at this
  · exact ho i hi he

end Go.Proofs.Ytchmnnagbnpijaa

/-
  Encodings of unsigned integers in base 128, as lists of numbers; reading them. Plain arithmetic.
-/
namespace Go.Proofs.Ytegniedbiegcpaa

/-- The encoding of an unsigned integer. -/
def en (n : Nat) : List Nat := if n < 128 then [n] else (n % 128 + 128) :: en (n / 128)
termination_by n
decreasing_by omega

theorem en_small {n : Nat} (h : n < 128) : en n = [n] := by rw [en, if_pos h]
theorem en_big {n : Nat} (h : ¬ n < 128) : en n = (n % 128 + 128) :: en (n / 128) := by rw [en, if_neg h]
theorem en_pos (n : Nat) : 1 ≤ (en n).length := by
  by_cases h : n < 128
  · rw [en_small h]; exact Nat.le_refl _
  · rw [en_big h, List.length_cons]; omega
theorem en_lt (n : Nat) : ∀ x ∈ en n, x < 256 := by
  induction n using Nat.strongRecOn with
  | _ n ih =>
    intro x hx
    by_cases h : n < 128
    · rw [en_small h, List.mem_singleton] at hx; omega
    · rw [en_big h, List.mem_cons] at hx
      rcases hx with rfl | hx
      · omega
      · exact ih (n / 128) (by omega) x hx
theorem en_len (k n : Nat) (h : n < 128 ^ (k + 1)) : (en n).length ≤ k + 1 := by
  induction k generalizing n with
  | zero => rw [en_small (by simpa using h)]; exact Nat.le_refl _
  | succ k ih =>
    by_cases hs : n < 128
    · rw [en_small hs, List.length_singleton]; omega
    · rw [en_big hs, List.length_cons]
      have := ih (n / 128) (by rw [Nat.pow_succ] at h; omega)
      omega
theorem en_ten {n : Nat} (h : n < 18446744073709551616) : (en n).length ≤ 10 := en_len 9 n (Nat.lt_of_lt_of_le h (by decide))
/-- An encoding of k + 1 bytes is that of a number of at least 128 ^ k. -/
theorem en_ge (k n : Nat) (h : k + 1 < (en n).length) : 128 ^ (k + 1) ≤ n := by
  induction k generalizing n with
  | zero =>
    by_cases hs : n < 128
    · rw [en_small hs, List.length_singleton] at h; omega
    · simpa using hs
  | succ k ih =>
    by_cases hs : n < 128
    · rw [en_small hs, List.length_singleton] at h; omega
    · rw [en_big hs, List.length_cons] at h
      have := ih (n / 128) (by omega)
      rw [Nat.pow_succ]
      omega
theorem en_mono {n m : Nat} (h : n ≤ m) : (en n).length ≤ (en m).length := by
  have hm := en_pos m
  obtain ⟨k, hk⟩ : ∃ k, (en m).length = k + 1 := ⟨(en m).length - 1, by omega⟩
  rw [hk]
  apply Nat.le_of_not_lt
  intro hl
  have h1 := en_ge k n hl
  by_cases hc : m < 128 ^ (k + 1)
  · omega
  · have := en_le_of k m hk
    omega
where
  en_le_of (k m : Nat) (hk : (en m).length = k + 1) : m < 128 ^ (k + 1) := by
    induction k generalizing m with
    | zero =>
      by_cases hs : m < 128
      · simpa using hs
      · rw [en_big hs, List.length_cons] at hk
        have := en_pos (m / 128)
        omega
    | succ k ih =>
      by_cases hs : m < 128
      · rw [en_small hs, List.length_singleton] at hk; omega
      · rw [en_big hs, List.length_cons] at hk
        have := ih (m / 128) (by omega)
        rw [Nat.pow_succ]
        omega

/-- What reading gives: a number and how many bytes it takes, or an error's code. -/
inductive R where
  | ok (n k : Nat)
  | err (c : Nat)
deriving DecidableEq

/-- Reading on: i bytes were read, their digits are v. -/
def rd : List Nat → Nat → Nat → R
  | [], i, _ => if i < 10 then .err 41 else .err 3
  | c :: l, i, v =>
    if i = 10 then .err 3
    else if c < 128 then (if (i = 9 ∧ 1 < c) ∨ (0 < i ∧ c = 0) then .err 3 else .ok (v + c * 128 ^ i) (i + 1))
    else rd l (i + 1) (v + (c - 128) * 128 ^ i)

theorem rd_ten (l : List Nat) (v : Nat) : rd l 10 v = .err 3 := by
  cases l <;> simp [rd]

theorem p9 : 128 ^ 9 = 9223372036854775808 := by decide
theorem pow_small {i : Nat} (h : 128 ^ i < 18446744073709551616) : i ≤ 9 := by
  apply Nat.le_of_not_lt
  intro hl
  have : 128 ^ 10 ≤ 128 ^ i := Nat.pow_le_pow_right (by decide) hl
  have : (128 : Nat) ^ 10 = 1180591620717411303424 := by decide
  omega

theorem rd_en_from (m : Nat) : ∀ (i v : Nat) (r : List Nat), (i = 0 ∨ 0 < m) → m * 128 ^ i < 18446744073709551616 → i ≤ 9 → rd (en m ++ r) i v = .ok (v + m * 128 ^ i) (i + (en m).length) := by
  induction m using Nat.strongRecOn with
  | _ m ih =>
    intro i v r hi hm h9
    by_cases hs : m < 128
    · rw [en_small hs]
      show rd (m :: r) i v = _
      rw [rd, if_neg (by omega), if_pos hs, if_neg]
      · rfl
      · rintro (⟨rfl, h⟩ | ⟨h1, h2⟩)
        · rw [p9] at hm; omega
        · omega
    · rw [en_big hs]
      have e : 128 ^ (i + 1) = 128 ^ i * 128 := Nat.pow_succ ..
      have h1 : 128 ^ (i + 1) ≤ m * 128 ^ i := by
        rw [e, Nat.mul_comm m]
        exact Nat.mul_le_mul_left _ (by omega)
      have hi9 := pow_small (Nat.lt_of_le_of_lt h1 hm)
      have h2 : m / 128 * 128 ^ (i + 1) ≤ m * 128 ^ i := by
        rw [e, Nat.mul_comm (128 ^ i), ← Nat.mul_assoc]
        exact Nat.mul_le_mul_right _ (Nat.div_mul_le_self _ _)
      show rd ((m % 128 + 128) :: (en (m / 128) ++ r)) i v = _
      rw [rd, if_neg (by omega), if_neg (by omega), ih (m / 128) (by omega) (i + 1) _ r (.inr (by omega)) (by omega) hi9]
      rw [List.length_cons]
      congr 1
      · rw [Nat.add_sub_cancel, e, Nat.add_assoc]
        congr 1
        have : m / 128 * (128 ^ i * 128) = (m / 128 * 128) * 128 ^ i := by rw [Nat.mul_comm (128 ^ i), Nat.mul_assoc]
        rw [this, ← Nat.add_mul]
        congr 1
        omega
      · omega
theorem rd_en {m : Nat} (hm : m < 18446744073709551616) (r : List Nat) : rd (en m ++ r) 0 0 = .ok m (en m).length := by
  rw [rd_en_from m 0 0 r (.inl rfl) (by simpa using hm) (by decide)]
  simp

/-- What was read is an encoding. -/
theorem rd_back_from : ∀ (l : List Nat) (i v n k : Nat), i ≤ 10 → (∀ x ∈ l, x < 256) → rd l i v = .ok n k →
    ∃ m r, l = en m ++ r ∧ (i = 0 ∨ 0 < m) ∧ n = v + m * 128 ^ i ∧ k = i + (en m).length ∧ m * 128 ^ i < 18446744073709551616 := by
  intro l
  induction l with
  | nil => intro i v n k _ _ h; simp only [rd] at h; split at h <;> cases h
  | cons c l ih =>
    intro i v n k hi hl h
    simp only [rd] at h
    split at h
    · cases h
    have hc : c < 256 := hl c (List.mem_cons_self ..)
    split at h
    · split at h
      · cases h
      · rename_i h1 h2 h3
        injection h with h4 h5
        refine ⟨c, l, by rw [en_small h2]; rfl, by omega, h4.symm, by rw [en_small h2]; exact h5.symm, ?_⟩
        by_cases h9 : i = 9
        · subst h9; rw [p9]; omega
        · have h8 : i ≤ 8 := by omega
          have : 128 ^ i ≤ 128 ^ 8 := Nat.pow_le_pow_right (by decide) h8
          have e8 : (128 : Nat) ^ 8 = 72057594037927936 := by decide
          calc c * 128 ^ i ≤ 127 * 128 ^ 8 := Nat.mul_le_mul (by omega) this
            _ < _ := by rw [e8]; decide
    · rename_i h1 h2
      obtain ⟨m, r, e1, e2, e3, e4, e5⟩ := ih (i + 1) _ n k (by omega) (fun x hx => hl x (List.mem_cons_of_mem _ hx)) h
      have hm : 0 < m := by omega
      have eq : (m * 128 + (c - 128)) % 128 + 128 = c := by omega
      have eq2 : (m * 128 + (c - 128)) / 128 = m := by omega
      have hen : en (m * 128 + (c - 128)) = c :: en m := by rw [en_big (by omega), eq, eq2]
      have e : 128 ^ (i + 1) = 128 ^ i * 128 := Nat.pow_succ ..
      have hv : (m * 128 + (c - 128)) * 128 ^ i = (c - 128) * 128 ^ i + m * 128 ^ (i + 1) := by
        rw [Nat.add_mul, e, Nat.mul_comm (128 ^ i) 128, Nat.mul_assoc, Nat.add_comm]
      refine ⟨m * 128 + (c - 128), r, by rw [hen, e1]; rfl, .inr (by omega), by rw [hv, e3]; omega, by rw [hen, List.length_cons]; omega, ?_⟩
      -- no wrap: the digits below are less than one of the next
      rw [hv]
      have hi8 : i + 1 ≤ 9 := by
        apply pow_small
        calc 128 ^ (i + 1) = 1 * 128 ^ (i + 1) := (Nat.one_mul _).symm
          _ ≤ m * 128 ^ (i + 1) := Nat.mul_le_mul_right _ hm
          _ < _ := e5
      obtain ⟨d, hd⟩ : ∃ d, 18446744073709551616 = d * 128 ^ (i + 1) := by
        refine ⟨2 * 128 ^ (9 - (i + 1)), ?_⟩
        rw [Nat.mul_assoc, ← Nat.pow_add, show 9 - (i + 1) + (i + 1) = 9 by omega, p9]
      rw [hd] at e5 ⊢
      have hmd : m < d := Nat.lt_of_mul_lt_mul_right e5
      have : (c - 128) * 128 ^ i < 128 ^ (i + 1) := by
        rw [e, Nat.mul_comm (128 ^ i)]
        exact Nat.mul_lt_mul_of_pos_right (by omega) (Nat.pow_pos (by decide))
      calc (c - 128) * 128 ^ i + m * 128 ^ (i + 1) < 128 ^ (i + 1) + m * 128 ^ (i + 1) := by omega
        _ = (m + 1) * 128 ^ (i + 1) := by rw [Nat.add_mul, Nat.one_mul, Nat.add_comm]
        _ ≤ d * 128 ^ (i + 1) := Nat.mul_le_mul_right _ hmd
theorem rd_back {l : List Nat} {n k : Nat} (hl : ∀ x ∈ l, x < 256) (h : rd l 0 0 = .ok n k) : ∃ r, l = en n ++ r ∧ k = (en n).length ∧ n < 18446744073709551616 := by
  obtain ⟨m, r, e1, _, e3, e4, e5⟩ := rd_back_from l 0 0 n k (by decide) hl h
  simp only [Nat.pow_zero, Nat.mul_one, Nat.zero_add] at e3 e4 e5
  subst e3
  exact ⟨r, e1, e4, e5⟩

/-- A proper beginning is too short. -/
theorem rd_short_from (m : Nat) : ∀ (i v j : Nat), i + (en m).length ≤ 10 → j < (en m).length → rd ((en m).take j) i v = .err 41 := by
  induction m using Nat.strongRecOn with
  | _ m ih =>
    intro i v j hi hj
    have hp := en_pos m
    cases j with
    | zero => rw [List.take_zero, rd, if_pos (by omega)]
    | succ j =>
      by_cases hs : m < 128
      · rw [en_small hs, List.length_singleton] at hj; omega
      · rw [en_big hs, List.length_cons] at hi hj
        rw [en_big hs, List.take_succ_cons, rd, if_neg (by omega), if_neg (by omega)]
        exact ih (m / 128) (by omega) (i + 1) _ j (by omega) (by omega)
theorem rd_short {m : Nat} (hm : m < 18446744073709551616) {j : Nat} (hj : j < (en m).length) : rd ((en m).take j) 0 0 = .err 41 :=
  rd_short_from m 0 0 j (by have := en_ten hm; omega) hj

/-- No encoding is the beginning of another one. -/
theorem en_free {n m : Nat} (hn : n < 18446744073709551616) (hm : m < 18446744073709551616) (h : en n = (en m).take (en n).length) : n = m := by
  have h1 : en m = en n ++ (en m).drop (en n).length := by
    conv => lhs; rw [← List.take_append_drop (en n).length (en m), ← h]
  have h2 := rd_en hm []
  rw [List.append_nil, h1, rd_en hn] at h2
  injection h2

/-! The integers. -/
def fold (z : Int) : Nat := if z < 0 then 2 * (-(z + 1)).toNat + 1 else 2 * z.toNat
def unfd (n : Nat) : Int := if n % 2 = 1 then -((n / 2 : Nat) : Int) - 1 else ((n / 2 : Nat) : Int)
theorem unfd_fold (z : Int) : unfd (fold z) = z := by
  unfold unfd fold
  split <;> split <;> omega
theorem fold_unfd (n : Nat) : fold (unfd n) = n := by
  unfold unfd fold
  split <;> split <;> omega
theorem fold_lt {z : Int} (h1 : -9223372036854775808 ≤ z) (h2 : z ≤ 9223372036854775807) : fold z < 18446744073709551616 := by
  unfold fold
  split <;> omega
theorem unfd_in {n : Nat} (h : n < 18446744073709551616) : -9223372036854775808 ≤ unfd n ∧ unfd n ≤ 9223372036854775807 := by
  unfold unfd
  split <;> omega

/-! The search of the first byte below 128. -/
theorem rd_first : ∀ (p : Nat) (l : List Nat) (i v : Nat), (∀ x ∈ l, x < 256) → i + p ≤ 9 → (∀ j, j < p → 128 ≤ l.getD j 0) → p < l.length → l.getD p 0 < 128 →
    (rd l i v = if (i + p = 9 ∧ 1 < l.getD p 0) ∨ (0 < i + p ∧ l.getD p 0 = 0) then .err 3 else .ok (v + ((l.take (p + 1)).foldr (fun c a => a * 128 + c % 128) 0) * 128 ^ i) (i + p + 1)) := by
  intro p
  induction p with
  | zero =>
    intro l i v _ hi _ hp hc
    cases l with
    | nil => cases hp
    | cons c l =>
      simp only [List.getD_cons_zero] at hc
      rw [rd, if_neg (by omega), if_pos hc]
      simp [Nat.mod_eq_of_lt hc]
  | succ p ih =>
    intro l i v hl hi hb hp hc
    cases l with
    | nil => cases hp
    | cons c l =>
      have h256 := hl c (List.mem_cons_self ..)
      simp only [List.getD_cons_succ] at hc
      have h0 := hb 0 (by omega)
      simp only [List.getD_cons_zero] at h0
      rw [rd, if_neg (by omega), if_neg (by omega), ih l (i + 1) _ (fun x hx => hl x (List.mem_cons_of_mem _ hx)) (by omega) (fun j hj => by have := hb (j + 1) (by omega); simpa using this) (by simpa using hp) hc]
      simp only [List.getD_cons_succ, show i + 1 + p = i + (p + 1) by omega, List.take_succ_cons, List.foldr_cons]
      have hc7 : c % 128 = c - 128 := by omega
      generalize (l.take (p + 1)).foldr (fun c a => a * 128 + c % 128) 0 = F
      have e : v + (c - 128) * 128 ^ i + F * 128 ^ (i + 1) = v + (F * 128 + c % 128) * 128 ^ i := by
        have e1 : (F * 128 + c % 128) * 128 ^ i = F * 128 ^ (i + 1) + (c - 128) * 128 ^ i := by
          rw [hc7, Nat.add_mul, Nat.pow_succ, Nat.mul_comm (128 ^ i) 128, Nat.mul_assoc]
        rw [e1, Nat.add_assoc, Nat.add_comm ((c - 128) * 128 ^ i)]
      rw [e]
theorem rd_none : ∀ (l : List Nat) (i v : Nat), i ≤ 10 → (∀ j, i + j < 10 → j < l.length → 128 ≤ l.getD j 0) → rd l i v = if i + l.length < 10 then .err 41 else .err 3 := by
  intro l
  induction l with
  | nil => intro i v _ _; simp [rd]
  | cons c l ih =>
    intro i v hi hb
    rw [rd]
    by_cases h10 : i = 10
    · rw [if_pos h10, if_neg (by omega)]
    · have h0 := hb 0 (by omega) (by simp)
      simp only [List.getD_cons_zero] at h0
      rw [if_neg h10, if_neg (by omega), ih (i + 1) _ (by omega) (fun j hj hl => by have := hb (j + 1) (by omega) (by simpa using hl); simpa using this)]
      rw [List.length_cons]
      congr 1
      simp only [eq_iff_iff]
      omega
end Go.Proofs.Ytegniedbiegcpaa

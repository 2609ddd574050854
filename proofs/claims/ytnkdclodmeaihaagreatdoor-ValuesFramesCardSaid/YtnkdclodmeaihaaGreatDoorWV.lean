/-
  Values as bytes: the encoding, what is read, and how they belong together (plain facts).
-/
import Derived.Test.YtnkdclodmeaihaaGreatDoorVaA
import Derived.Test.YtnkdclodmeaihaaGreatDoorWirC
namespace Go.Proofs.YtnkdclodmeaihaaGreatDoor

/-- The encoding of a valid value. -/
def encV (v : Va) : List Nat :=
  v.k.toNat :: (if v.k = 1 then [v.n.toNat] else if v.k = 2 ∨ v.k = 3 then en (fold v.n) else if v.k = 4 ∨ v.k = 5 then en v.s.size ++ sl v.s else [])
def enc (v : Va) : List Nat := if ok v then encV v else []
theorem enc_ok {v : Va} (h : ok v = true) : enc v = encV v := by unfold enc; rw [if_pos h]
theorem enc_no {v : Va} (h : ok v = false) : enc v = [] := by unfold enc; rw [h]; rfl
theorem by_encV {v : Va} (h : ok v = true) : By (encV v) := by
  have one : ∀ x : Nat, x < 256 → By [x] := fun x hx y hy => by rw [List.mem_singleton] at hy; omega
  rcases ok_cases h with rfl | rfl | rfl | ⟨n, rfl, h1, h2⟩ | ⟨n, rfl, h1, h2⟩ | ⟨s, rfl, h1, h2⟩ | ⟨s, rfl, h0, h1, h2⟩
  · exact one 0 (by decide)
  · exact (one 1 (by decide)).append (one 0 (by decide))
  · exact (one 1 (by decide)).append (one 1 (by decide))
  · exact (one 2 (by decide)).append (by_en _)
  · exact (one 3 (by decide)).append (by_en _)
  · exact (one 4 (by decide)).append ((by_en _).append (by_sl s))
  · exact (one 5 (by decide)).append ((by_en _).append (by_sl s))
theorem by_enc (v : Va) : By (enc v) := by
  cases h : ok v
  · rw [enc_no h]; exact By.nil
  · rw [enc_ok h]; exact by_encV h
theorem encV_len {v : Va} (h : ok v = true) : 1 ≤ (encV v).length ∧ (encV v).length ≤ 75 := by
  rcases ok_cases h with rfl | rfl | rfl | ⟨n, rfl, h1, h2⟩ | ⟨n, rfl, h1, h2⟩ | ⟨s, rfl, h1, h2⟩ | ⟨s, rfl, h0, h1, h2⟩
  · decide
  · decide
  · decide
  · have := en_ten (fold_lt (z := n) (by omega) (by omega))
    show 1 ≤ (2 :: en (fold n)).length ∧ (2 :: en (fold n)).length ≤ 75
    rw [List.length_cons]
    omega
  · have := en_ten (fold_lt (z := n) (by omega) (by omega))
    show 1 ≤ (3 :: en (fold n)).length ∧ (3 :: en (fold n)).length ≤ 75
    rw [List.length_cons]
    omega
  · have := en_ten (n := s.size) (by omega)
    show 1 ≤ (4 :: (en s.size ++ sl s)).length ∧ (4 :: (en s.size ++ sl s)).length ≤ 75
    rw [List.length_cons, List.length_append, sl_length]
    omega
  · have := en_ten (n := s.size) (by omega)
    show 1 ≤ (5 :: (en s.size ++ sl s)).length ∧ (5 :: (en s.size ++ sl s)).length ≤ 75
    rw [List.length_cons, List.length_append, sl_length]
    omega
theorem enc_len (v : Va) : (enc v).length ≤ 75 := by
  cases h : ok v
  · rw [enc_no h]; decide
  · rw [enc_ok h]; exact (encV_len h).2

/-- values.readContent: the value, the offset, the error. -/
def rC (k : Nat) (l : List Nat) (p : Nat) : Va × Nat × Nat :=
  if k = 0 then (⟨0, 0, .empty⟩, p, 0)
  else if k = 1 then (if p = l.length then (⟨1, 0, .empty⟩, 0, 41) else if 1 < ix l p then (⟨1, 0, .empty⟩, 0, 3) else (⟨1, ix l p, .empty⟩, p + 1, 0))
  else if k = 2 ∨ k = 3 then (⟨k, (rI l p).1, .empty⟩, (rI l p).2.1, (rI l p).2.2)
  else if k = 4 ∨ k = 5 then (⟨k, 0, st_of (rT l p).1⟩, (rT l p).2.1, (rT l p).2.2)
  else (⟨k, 0, .empty⟩, p, 3)
def rEnd (c : Va × Nat × Nat) : Va × Nat × Int :=
  if c.2.2 = 0 then (if ck c.1 = 0 then (c.1, c.2.1, 0) else (⟨0, 0, .empty⟩, 0, ck c.1)) else (⟨0, 0, .empty⟩, 0, c.2.2)
/-- values.Read. -/
def rV (l : List Nat) (z : Int) : Va × Nat × Int :=
  if z < 0 ∨ (l.length : Int) < z then (⟨0, 0, .empty⟩, 0, 1)
  else if z = l.length then (⟨0, 0, .empty⟩, 0, 41)
  else rEnd (rC (ix l z.toNat) l (z.toNat + 1))

theorem ix_at (l : List Nat) (x : Nat) (r : List Nat) : ix (l ++ x :: r) l.length = x := by simp [ix]
theorem rV_at (l : List Nat) (x : Nat) (r : List Nat) : rV (l ++ x :: r) (l.length : Int) = rEnd (rC x (l ++ x :: r) (l.length + 1)) := by
  unfold rV
  rw [if_neg (at_len _ _), if_neg (by rw [List.length_append, List.length_cons]; omega), Int.toNat_natCast, ix_at]
theorem rI_back1 (l : List Nat) (x : Nat) (r : List Nat) {z : Int} (h1 : -9223372036854775808 ≤ z) (h2 : z ≤ 9223372036854775807) : rI (l ++ x :: (en (fold z) ++ r)) ((l.length + 1 : Nat) : Int) = (z, l.length + 1 + (en (fold z)).length, 0) := by
  have h := rI_back (l ++ [x]) r h1 h2
  rw [List.append_assoc, List.length_append, List.length_singleton] at h
  exact h
theorem rT_back1 (l : List Nat) (x : Nat) (t r : List Nat) (ht : t.length < 18446744073709551616) : rT (l ++ x :: (en t.length ++ (t ++ r))) ((l.length + 1 : Nat) : Int) = (t, l.length + 1 + (en t.length).length + t.length, 0) := by
  have h := rT_back (l ++ [x]) t r ht
  rw [List.append_assoc, List.length_append, List.length_singleton] at h
  exact h

theorem rEnd_ok {v : Va} (h : ok v = true) (k : Nat) : rEnd (v, k, 0) = (v, k, 0) := by
  unfold rEnd
  rw [if_pos rfl, if_pos (ck_ok h)]
/-- Reading back. -/
theorem rV_back (l r : List Nat) {v : Va} (h : ok v = true) : rV (l ++ (encV v ++ r)) (l.length : Int) = (v, l.length + (encV v).length, 0) := by
  have hv := h
  rcases ok_cases h with rfl | rfl | rfl | ⟨n, rfl, h1, h2⟩ | ⟨n, rfl, h1, h2⟩ | ⟨s, rfl, h1, h2⟩ | ⟨s, rfl, h0, h1, h2⟩
  · show rV (l ++ 0 :: r) _ = _
    rw [rV_at]
    exact rEnd_ok hv _
  · show rV (l ++ 1 :: 0 :: r) _ = _
    rw [rV_at]
    have hx : ix (l ++ 1 :: 0 :: r) (l.length + 1) = 0 := by have := ix_at (l ++ [1]) 0 r; rw [List.append_assoc, List.length_append, List.length_singleton] at this; exact this
    have hc : rC 1 (l ++ 1 :: 0 :: r) (l.length + 1) = (⟨1, 0, .empty⟩, l.length + 2, 0) := by
      unfold rC
      rw [if_neg (by decide), if_pos rfl, hx, if_neg (by simp only [List.length_append, List.length_cons]; omega), if_neg (by decide)]
      rfl
    rw [hc]
    exact rEnd_ok hv _
  · show rV (l ++ 1 :: 1 :: r) _ = _
    rw [rV_at]
    have hx : ix (l ++ 1 :: 1 :: r) (l.length + 1) = 1 := by have := ix_at (l ++ [1]) 1 r; rw [List.append_assoc, List.length_append, List.length_singleton] at this; exact this
    have hc : rC 1 (l ++ 1 :: 1 :: r) (l.length + 1) = (⟨1, 1, .empty⟩, l.length + 2, 0) := by
      unfold rC
      rw [if_neg (by decide), if_pos rfl, hx, if_neg (by simp only [List.length_append, List.length_cons]; omega), if_neg (by decide)]
      rfl
    rw [hc]
    exact rEnd_ok hv _
  · show rV (l ++ 2 :: (en (fold n) ++ r)) _ = _
    rw [rV_at]
    have hc : rC 2 (l ++ 2 :: (en (fold n) ++ r)) (l.length + 1) = (⟨2, n, .empty⟩, l.length + (2 :: en (fold n)).length, 0) := by
      unfold rC
      rw [if_neg (by decide), if_neg (by decide), if_pos (.inl rfl), rI_back1 l 2 r (by omega) (by omega), List.length_cons]
      simp only [Nat.add_assoc, Nat.add_comm 1]
      rfl
    rw [hc]
    exact rEnd_ok hv _
  · show rV (l ++ 3 :: (en (fold n) ++ r)) _ = _
    rw [rV_at]
    have hc : rC 3 (l ++ 3 :: (en (fold n) ++ r)) (l.length + 1) = (⟨3, n, .empty⟩, l.length + (3 :: en (fold n)).length, 0) := by
      unfold rC
      rw [if_neg (by decide), if_neg (by decide), if_pos (.inr rfl), rI_back1 l 3 r (by omega) (by omega), List.length_cons]
      simp only [Nat.add_assoc, Nat.add_comm 1]
      rfl
    rw [hc]
    exact rEnd_ok hv _
  · show rV (l ++ 4 :: ((en s.size ++ sl s) ++ r)) _ = _
    rw [rV_at, List.append_assoc]
    have hb := rT_back1 l 4 (sl s) r (by rw [sl_length]; omega)
    rw [sl_length] at hb
    have hc : rC 4 (l ++ 4 :: (en s.size ++ (sl s ++ r))) (l.length + 1) = (⟨4, 0, s⟩, l.length + (4 :: (en s.size ++ sl s)).length, 0) := by
      unfold rC
      rw [if_neg (by decide), if_neg (by decide), if_neg (by decide), if_pos (.inl rfl), hb]
      simp only [st_of_sl, List.length_cons, List.length_append, sl_length]
      congr 2
      omega
    rw [hc]
    exact rEnd_ok hv _
  · show rV (l ++ 5 :: ((en s.size ++ sl s) ++ r)) _ = _
    rw [rV_at, List.append_assoc]
    have hb := rT_back1 l 5 (sl s) r (by rw [sl_length]; omega)
    rw [sl_length] at hb
    have hc : rC 5 (l ++ 5 :: (en s.size ++ (sl s ++ r))) (l.length + 1) = (⟨5, 0, s⟩, l.length + (5 :: (en s.size ++ sl s)).length, 0) := by
      unfold rC
      rw [if_neg (by decide), if_neg (by decide), if_neg (by decide), if_pos (.inr rfl), hb]
      simp only [st_of_sl, List.length_cons, List.length_append, sl_length]
      congr 2
      omega
    rw [hc]
    exact rEnd_ok hv _
theorem rV_err (l : List Nat) (z : Int) (h : (rV l z).2.2 ≠ 0) : rV l z = (⟨0, 0, .empty⟩, 0, (rV l z).2.2) := by
  unfold rV at *
  split
  · rfl
  · split
    · rfl
    · rename_i h1 h2
      rw [if_neg h1, if_neg h2] at h
      generalize rC (ix l z.toNat) l (z.toNat + 1) = c at *
      unfold rEnd at *
      split
      · split
        · rename_i h3 h4
          rw [if_pos h3, if_pos h4] at h
          exact absurd rfl h
        · rfl
      · rfl
/-- No encoding is the beginning of another one. -/
theorem enc_free {a b : Va} (ha : ok a = true) (hb : ok b = true) (h : encV a = (encV b).take (encV a).length) : a = b := by
  have e : encV b = encV a ++ (encV b).drop (encV a).length := by conv => lhs; rw [← List.take_append_drop (encV a).length (encV b), ← h]
  have h1 := rV_back [] ((encV b).drop (encV a).length) ha
  have h2 := rV_back [] [] hb
  rw [List.append_nil, List.nil_append, e] at h2
  rw [List.nil_append] at h1
  rw [h2] at h1
  injection h1 with h1 _
  exact h1.symm
/-- What is read is encoded so. -/
theorem rV_one {l : List Nat} (hl : By l) (h : (rV l 0).2.2 = 0) : ok (rV l 0).1 = true ∧ (rV l 0).2.1 ≤ l.length ∧ l.take (rV l 0).2.1 = encV (rV l 0).1 := by
  unfold rV at *
  by_cases h1 : (0 : Int) < 0 ∨ (l.length : Int) < 0
  · rw [if_pos h1] at h; cases h
  rw [if_neg h1] at h ⊢
  by_cases h2 : (0 : Int) = l.length
  · rw [if_pos h2] at h; cases h
  rw [if_neg h2] at h ⊢
  rw [show (0 : Int).toNat = 0 from rfl] at h ⊢
  obtain ⟨x, r, rfl⟩ : ∃ x r, l = x :: r := by
    cases l with
    | nil => exact absurd rfl h2
    | cons x r => exact ⟨x, r, rfl⟩
  rw [show ix (x :: r) 0 = x from rfl, Nat.zero_add] at h ⊢
  have hd : (x :: r).drop 1 = r := rfl
  -- what readContent gives
  have key : (rC x (x :: r) 1).2.2 = 0 → ck (rC x (x :: r) 1).1 = 0 → (rC x (x :: r) 1).2.1 ≤ (x :: r).length ∧ (x :: r).take (rC x (x :: r) 1).2.1 = encV (rC x (x :: r) 1).1 := by
    intro h3 h4
    unfold rC at *
    by_cases k0 : x = 0
    · subst k0
      rw [if_pos rfl] at h3 h4 ⊢
      exact ⟨by simp, rfl⟩
    rw [if_neg k0] at h3 h4 ⊢
    by_cases k1 : x = 1
    · subst k1
      rw [if_pos rfl] at h3 h4 ⊢
      by_cases k2 : 1 = (1 :: r).length
      · rw [if_pos k2] at h3; cases h3
      rw [if_neg k2] at h3 h4 ⊢
      obtain ⟨y, r, rfl⟩ : ∃ y r', r = y :: r' := by
        cases r with
        | nil => exact absurd rfl k2
        | cons y r' => exact ⟨y, r', rfl⟩
      rw [show ix (1 :: y :: r) 1 = y from rfl] at h3 h4 ⊢
      by_cases k3 : 1 < y
      · rw [if_pos k3] at h3; cases h3
      rw [if_neg k3]
      refine ⟨by simp, ?_⟩
      show [1, y] = [1, ((y : Nat) : Int).toNat]
      rw [Int.toNat_natCast]
    rw [if_neg k1] at h3 h4 ⊢
    by_cases k2 : x = 2 ∨ x = 3
    · rw [if_pos k2] at h3 h4 ⊢
      simp only at h3 h4 ⊢
      rcases rU_cases (x :: r) (1 : Nat) hl with ⟨c, _, e, hc, _⟩ | ⟨p, v, e0, hp, hq, htk, hv, _, e, _⟩
      · rw [e] at h3; exact absurd h3 hc
      · obtain rfl : p = 1 := by omega
        rw [e] at h3 h4 ⊢
        refine ⟨hq, ?_⟩
        simp only
        have hh : encV ⟨(x : Int), unfd v, .empty⟩ = x :: en v := by
          unfold encV
          simp only
          rw [if_neg (by omega), if_pos (by omega), fold_unfd, Int.toNat_natCast]
        rw [hh, Nat.add_comm, List.take_succ_cons]
        conv => rhs; rw [← htk]
        rw [hd]
    rw [if_neg k2] at h3 h4 ⊢
    by_cases k4 : x = 4 ∨ x = 5
    · rw [if_pos k4] at h3 h4 ⊢
      simp only at h3 h4 ⊢
      rcases rT_cases (x :: r) (1 : Nat) hl with ⟨c, e, hc, _⟩ | ⟨p, t, e0, hp, hq, htk, e⟩
      · rw [e] at h3; exact absurd h3 hc
      · obtain rfl : p = 1 := by omega
        have hbt : By t := by
          have hb : By (en t.length ++ t) := by rw [← htk]; exact By.take (By.drop hl 1) _
          exact hb.right
        rw [e] at h3 h4 ⊢
        refine ⟨hq, ?_⟩
        simp only
        have hh : encV ⟨(x : Int), 0, st_of t⟩ = x :: (en t.length ++ t) := by
          unfold encV
          simp only
          rw [if_neg (by omega), if_neg (by omega), if_pos (by omega), Int.toNat_natCast, st_of_size, sl_st_of hbt]
        rw [hh, Nat.add_comm, List.take_succ_cons]
        conv => rhs; rw [← htk]
        rw [hd]
    rw [if_neg k4] at h3
    cases h3
  generalize rC x (x :: r) 1 = c at *
  unfold rEnd at *
  by_cases h3 : c.2.2 = 0
  · rw [if_pos h3] at h ⊢
    by_cases h4 : ck c.1 = 0
    · rw [if_pos h4]
      exact ⟨decide_eq_true h4, key h3 h4⟩
    · rw [if_neg h4] at h
      exact absurd h h4
  · rw [if_neg h3] at h
    simp only at h
    omega
/-- A proper beginning. -/
theorem rI_short {n j : Nat} (x : Nat) (hn : n < 18446744073709551616) (hj : j < (en n).length) : rI (x :: (en n).take j) ((1 : Nat) : Int) = (0, 0, 41) := by
  unfold rI
  rw [if_neg (by rw [List.length_cons]; omega), Int.toNat_natCast, show (x :: (en n).take j).drop 1 = (en n).take j from rfl, rd_short hn hj]
theorem rT_short1 {t : List Nat} {j : Nat} (x : Nat) (ht : t.length < 18446744073709551616) (hj : j < (en t.length ++ t).length) : rT (x :: (en t.length ++ t).take j) ((1 : Nat) : Int) = ([], 0, 41) := by
  have h := rT_short ht hj
  unfold rT at *
  rw [if_neg (by omega), show (0 : Int).toNat = 0 from rfl, List.drop_zero] at h
  rw [if_neg (by rw [List.length_cons]; omega), Int.toNat_natCast, show (x :: (en t.length ++ t).take j).drop 1 = (en t.length ++ t).take j from rfl]
  generalize (en t.length ++ t).take j = l at *
  cases hr : rd l 0 0 with
  | err c => rw [hr] at h; exact h
  | ok v k =>
    rw [hr] at h
    simp only [Nat.zero_add] at h ⊢
    by_cases hs : l.length - k < v
    · rw [if_pos (by rw [List.length_cons]; omega)]
    · rw [if_neg hs] at h
      injection h with _ h
      injection h with _ h
      cases h
theorem rV_short {v : Va} (h : ok v = true) {j : Nat} (hj : j < (encV v).length) : rV ((encV v).take j) 0 = (⟨0, 0, .empty⟩, 0, 41) := by
  cases j with
  | zero =>
    rw [List.take_zero]
    rfl
  | succ j =>
    have hstep : ∀ (x : Nat) (r : List Nat), rC x (x :: r) 1 = ((rC x (x :: r) 1).1, (rC x (x :: r) 1).2.1, 41) → rV (x :: r) 0 = (⟨0, 0, .empty⟩, 0, 41) := by
      intro x r hc
      have := rV_at [] x r
      rw [List.nil_append, List.length_nil, Nat.zero_add, hc] at this
      exact this
    have rIs : ∀ (x : Nat) (n : Int), (x = 2 ∨ x = 3) → j < (en (fold n)).length → -1152921504606846976 ≤ n → n ≤ 1152921504606846976 → rV ((x :: en (fold n)).take (j + 1)) 0 = (⟨0, 0, .empty⟩, 0, 41) := by
      intro x n hx hj h1 h2
      rw [List.take_succ_cons]
      apply hstep
      have := rI_short x (fold_lt (z := n) (by omega) (by omega)) hj
      unfold rC
      rw [if_neg (by omega), if_neg (by omega), if_pos hx, this]
    have rTs : ∀ (x : Nat) (s : ByteArray), (x = 4 ∨ x = 5) → j < (en s.size ++ sl s).length → s.size ≤ 64 → rV ((x :: (en s.size ++ sl s)).take (j + 1)) 0 = (⟨0, 0, .empty⟩, 0, 41) := by
      intro x s hx hj hs
      rw [List.take_succ_cons]
      apply hstep
      have := rT_short1 (t := sl s) (j := j) x (by rw [sl_length]; omega) (by rw [sl_length]; exact hj)
      rw [sl_length] at this
      unfold rC
      rw [if_neg (by omega), if_neg (by omega), if_neg (by omega), if_pos hx, this]
    rcases ok_cases h with rfl | rfl | rfl | ⟨n, rfl, h1, h2⟩ | ⟨n, rfl, h1, h2⟩ | ⟨s, rfl, h1, h2⟩ | ⟨s, rfl, h0, h1, h2⟩
    · have : (encV ⟨0, 0, .empty⟩).length = 1 := rfl
      omega
    · have : (encV ⟨1, 0, .empty⟩).length = 2 := rfl
      obtain rfl : j = 0 := by omega
      rfl
    · have : (encV ⟨1, 1, .empty⟩).length = 2 := rfl
      obtain rfl : j = 0 := by omega
      rfl
    · exact rIs 2 n (.inl rfl) (by simpa [encV] using hj) h1 h2
    · exact rIs 3 n (.inr rfl) (by simpa [encV] using hj) h1 h2
    · exact rTs 4 s (.inl rfl) (by simpa [encV] using hj) h1
    · exact rTs 5 s (.inr rfl) (by simpa [encV] using hj) (by omega)
end Go.Proofs.YtnkdclodmeaihaaGreatDoor

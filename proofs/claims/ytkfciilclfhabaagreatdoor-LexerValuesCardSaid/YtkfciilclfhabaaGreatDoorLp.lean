/-
  The error of a decimal that consists of digits, a point and digits: decimal.Parse and the reference agree.
-/
import Derived.Test.YtkfciilclfhabaaGreatDoorLx
namespace Go.Proofs.YtkfciilclfhabaaGreatDoor
open dec

/-- n is v as far as v is in range, and out of range if v is. -/
def Tw (n : Int) (v : Nat) : Prop := (v ≤ 1152921504606846976 ∧ n = v) ∨ (1152921504606846976 < v ∧ 1152921504606846976 < n)
theorem wd_tw {n d : Int} {a c : Nat} (h : Tw n a) (hd : d = (c : Int)) (hc : c ≤ 9) : Tw (wd n d) (a * 10 + c) := by
  unfold Tw at *
  unfold wd
  split <;> omega
theorem sat_tw {n a c : Nat} (h : Tw (n : Int) a) (hc : c ≤ 9) : Tw ((sat n c : Nat) : Int) (a * 10 + c) := by
  unfold Tw at *
  unfold sat
  omega
theorem rd_tw (l : List UInt8) : ∀ (ds r : List UInt8) (k i : Nat) (n : Int) (a p : Nat), l.drop i = ds ++ r → (∀ c ∈ ds, isD c = true) → Tw n a →
    ∃ n', Tw n' (dval a ds) ∧ dec.rd l (k + ds.length) i n p = dec.rd l k (i + ds.length) n' p
  | [], r, k, i, n, a, p, _, _, ht => ⟨n, ht, rfl⟩
  | c :: ds, r, k, i, n, a, p, h, hd, ht => by
    obtain ⟨hi, hb, hr⟩ := byte_of_drop h
    have hc := (isD_iff c).1 (hd c (List.mem_cons_self ..))
    have hw := wd_tw (d := byteAt l i - 48) (c := c.toNat - 48) ht (by rw [hb]; omega) (by omega)
    obtain ⟨n', h1, h2⟩ := rd_tw l ds r k (i + 1) _ _ p hr (fun d hd' => hd d (List.mem_cons_of_mem _ hd')) hw
    refine ⟨n', by rw [dval_cons]; exact h1, ?_⟩
    rw [List.length_cons, ← Nat.add_assoc, dec.rd, if_pos hi, if_pos (by rw [hb]; omega), h2, Nat.add_assoc, Nat.add_comm 1]
theorem stp_tw : ∀ (ds : List UInt8) (x a : Nat) (b : Int), (∀ d ∈ ds, isD d = true) → Tw (x : Int) a → ∃ x' : Nat, Tw (x' : Int) (dval a ds) ∧ ds.foldl stp (x, b) = (x', if 0 ≤ b then b + ds.length else b)
  | [], x, a, b, _, ht => ⟨x, ht, by simp⟩
  | c :: ds, x, a, b, h, ht => by
    have hc := h c (List.mem_cons_self ..)
    have hc2 := (isD_iff c).1 hc
    have e46 : c ≠ 46 := ne_of_toNat (n := 46) (by decide) (by omega)
    have hs : stp (x, b) c = (sat x (c.toNat - 48), if 0 ≤ b then b + 1 else b) := by
      unfold stp
      simp only [if_neg e46, hc, if_true]
    obtain ⟨x', h1, h2⟩ := stp_tw ds _ _ (if 0 ≤ b then b + 1 else b) (fun d hd => h d (List.mem_cons_of_mem _ hd)) (sat_tw (c := c.toNat - 48) ht (by omega))
    refine ⟨x', by rw [dval_cons]; exact h1, ?_⟩
    rw [List.foldl_cons, hs, h2, List.length_cons]
    congr 1
    by_cases hb : 0 ≤ b
    · rw [if_pos hb, if_pos (by omega), if_pos hb]; omega
    · rw [if_neg hb, if_neg hb, if_neg hb]
theorem scl_tw : ∀ (k x a : Nat), Tw (x : Int) a → Tw ((scl k x : Nat) : Int) (a * 10 ^ k)
  | 0, x, a, h => by rw [Nat.pow_zero, Nat.mul_one]; exact h
  | k + 1, x, a, h => by
    have h1 := scl_tw k _ _ (sat_tw (c := 0) h (by omega))
    rw [Nat.add_zero, Nat.mul_assoc, ← Nat.pow_succ'] at h1
    exact h1
theorem tw_mul {n : Int} {v : Nat} (h : Tw n v) {q : Nat} (hq : 1 ≤ q) : 0 ≤ n ∧ (1152921504606846976 < n * q ↔ 1152921504606846976 < v * q) := by
  have h0 : 0 ≤ n := by unfold Tw at h; omega
  refine ⟨h0, ?_⟩
  rcases h with ⟨h1, rfl⟩ | ⟨h1, h2⟩
  · rw [← Int.natCast_mul]
    generalize v * q = z
    omega
  · have a1 := Int.mul_le_mul_of_nonneg_left (show (1 : Int) ≤ (q : Int) by omega) h0
    have a2 := Nat.mul_le_mul_left v hq
    rw [Int.mul_one] at a1
    rw [Nat.mul_one] at a2
    generalize n * (q : Int) = z at *
    generalize v * q = y at *
    omega
theorem pow_tab {k : Nat} (h : k ≤ 6) : powTab.getD (6 - (k : Int)).toNat 0 = ((10 ^ (6 - k) : Nat) : Int) := by
  obtain h | h | h | h | h | h | h : k = 0 ∨ k = 1 ∨ k = 2 ∨ k = 3 ∨ k = 4 ∨ k = 5 ∨ k = 6 := by omega
  all_goals (subst h; rfl)
/-- The error of digits, a point, and digits. -/
def dcE (ds fs : List UInt8) : Int := if 6 < fs.length then 3 else if 1152921504606846976 < dval (dval 0 ds) fs * 10 ^ (6 - fs.length) then 2 else 0
theorem tw_zero : Tw 0 0 := .inl ⟨by omega, rfl⟩
theorem pa_dec {ds fs : List UInt8} (h1 : ds ≠ []) (h2 : fs ≠ []) (hd : ∀ c ∈ ds, isD c = true) (hf : ∀ c ∈ fs, isD c = true) : paE (ds ++ 46 :: fs) = dcE ds fs := by
  obtain ⟨l, hl⟩ : ∃ l, l = ds ++ 46 :: fs := ⟨_, rfl⟩
  have hdl : 1 ≤ ds.length := by cases ds; exact absurd rfl h1; simp
  have hfl : 1 ≤ fs.length := by cases fs; exact absurd rfl h2; simp
  have hlen : l.length = ds.length + (fs.length + 1) := by rw [hl]; simp
  obtain ⟨n1, t1, s1⟩ := rd_tw l ds (46 :: fs) (fs.length + 1) 0 0 0 l.length (by rw [hl]; rfl) hd tw_zero
  rw [Nat.zero_add] at s1
  have hdr : l.drop ds.length = 46 :: fs := by rw [hl, List.drop_left]
  obtain ⟨b1, b2, b3⟩ := byte_of_drop hdr
  have e46 : byteAt l ds.length = 46 := by rw [b2]; rfl
  have s2 : dec.rd l (fs.length + 1) ds.length n1 l.length = dec.rd l fs.length (ds.length + 1) n1 ds.length := by
    rw [dec.rd, if_pos b1, if_neg (by omega), if_pos ⟨e46, rfl⟩]
  obtain ⟨n2, t2, s3⟩ := rd_tw l fs [] 0 (ds.length + 1) n1 _ ds.length (by rw [b3, List.append_nil]) hf t1
  rw [Nat.zero_add] at s3
  have s4 : dec.rd l l.length 0 0 l.length = (ds.length + 1 + fs.length, n2, ds.length) := by
    rw [show dec.rd l l.length 0 0 l.length = dec.rd l (fs.length + 1 + ds.length) 0 0 l.length by rw [show fs.length + 1 + ds.length = l.length by omega], s1, s2, s3]
    rfl
  have hall : rdAll l = if 6 < fs.length then (0, 0, false) else (n2, (fs.length : Int), true) := by
    unfold rdAll
    rw [s4]
    unfold rdEnd
    simp only
    rw [hlen, if_neg (by omega), if_neg (by omega)]
    by_cases h6 : 6 < fs.length
    · rw [if_pos h6, if_pos (by omega)]
    · rw [if_neg h6, if_neg (by omega)]
      congr 2
      omega
  obtain ⟨c, r, rfl⟩ : ∃ c r, ds = c :: r := by cases ds; exact absurd rfl h1; exact ⟨_, _, rfl⟩
  have hc := (isD_iff c).1 (hd c (List.mem_cons_self ..))
  have hpre := pre_other (c := c) (ne_of_toNat (n := 45) (by decide) (by omega)) (r ++ 46 :: fs)
  rw [← List.cons_append, ← hl] at hpre
  rw [← hl]
  unfold paE pmOf dcE
  rw [hpre.1, hpre.2, hall]
  by_cases h6 : 6 < fs.length
  · rw [if_pos h6, if_pos h6]
    rfl
  · rw [if_neg h6, if_neg h6]
    simp only [Bool.false_eq_true, if_false, if_true]
    rw [pow_tab (by omega)]
    obtain ⟨t3, t4⟩ := tw_mul t2 (q := 10 ^ (6 - fs.length)) (Nat.pow_pos (by decide))
    have t5 := Int.mul_nonneg t3 (Int.natCast_nonneg (10 ^ (6 - fs.length)))
    generalize n2 * ((10 ^ (6 - fs.length) : Nat) : Int) = z at *
    generalize dval (dval 0 (c :: r)) fs * 10 ^ (6 - fs.length) = y at *
    by_cases h7 : 1152921504606846976 < y
    · rw [if_pos h7, (rg_no z).2 (by omega)]
      rfl
    · rw [if_neg h7, (rg_iff z).2 (by omega)]
      rfl
theorem rp_dec {ds fs : List UInt8} (h1 : ds ≠ []) (h2 : fs ≠ []) (hd : ∀ c ∈ ds, isD c = true) (hf : ∀ c ∈ fs, isD c = true) : (rpP (ds ++ 46 :: fs)).2 = dcE ds fs := by
  obtain ⟨l, hl⟩ : ∃ l, l = ds ++ 46 :: fs := ⟨_, rfl⟩
  have hdl : 1 ≤ ds.length := by cases ds; exact absurd rfl h1; simp
  have hfl : 1 ≤ fs.length := by cases fs; exact absurd rfl h2; simp
  have hlen : l.length = ds.length + (fs.length + 1) := by rw [hl]; simp
  have hh : l.head? ≠ some 45 := by
    obtain ⟨c, r, rfl⟩ : ∃ c r, ds = c :: r := by cases ds; exact absurd rfl h1; exact ⟨_, _, rfl⟩
    have hc := (isD_iff c).1 (hd c (List.mem_cons_self ..))
    rw [hl, List.cons_append, List.head?_cons]
    simpa using ne_of_toNat (n := 45) (by decide) (by omega)
  have ha : atP l = 0 := by unfold atP; rw [if_neg hh]
  have hg1 : dgn l = ds.length := by rw [hl]; exact dgn_digits 46 rfl fs ds hd
  have hdr : l.drop ds.length = 46 :: fs := by rw [hl, List.drop_left]
  have hdr2 : l.drop (ds.length + 1) = fs := by rw [← List.drop_drop, hdr]; rfl
  have hg2 : dgn fs = fs.length := dgn_all fs hf
  have hgd : l.getD ds.length 0 = 46 := by
    have := (byte_of_drop hdr).1
    rw [List.drop_eq_getElem_cons this] at hdr
    injection hdr with h1 _
    rw [List.getD_eq_getElem?_getD, List.getElem?_eq_getElem this, h1]
    rfl
  have hform : formP l = decide (fs.length ≤ 6) := by
    unfold formP
    rw [ha, List.drop_zero, hg1, Nat.zero_add, hdr2, hg2, hgd, if_neg (by omega), hlen, if_neg (by omega)]
    rw [Bool.eq_iff_iff]
    simp only [Bool.and_eq_true, decide_eq_true_eq]
    constructor
    · intro h; omega
    · intro h
      exact ⟨⟨⟨trivial, hfl⟩, h⟩, by omega⟩
  obtain ⟨x1, t1, s1⟩ := stp_tw ds 0 0 (-1) hd tw_zero
  obtain ⟨x2, t2, s2⟩ := stp_tw fs x1 _ 0 hf t1
  have hfold : l.foldl stp (0, -1) = (x2, (fs.length : Int)) := by
    rw [hl, List.foldl_append, s1, if_neg (by omega), List.foldl_cons, show stp (x1, -1) 46 = (x1, 0) from rfl, s2, if_pos (by omega), Int.zero_add]
  rw [← hl]
  unfold rpP dcE
  rw [hform, hfold]
  by_cases h6 : 6 < fs.length
  · rw [if_pos h6, decide_eq_false (by omega)]
    rfl
  · rw [if_neg h6, decide_eq_true (by omega), if_pos rfl]
    have e6 : 6 - (max ((x2, (fs.length : Int)) : Nat × Int).2 0).toNat = 6 - fs.length := by
      show 6 - (max (fs.length : Int) 0).toNat = _
      omega
    rw [e6]
    have t3 := scl_tw (6 - fs.length) x2 _ t2
    show (rpEnd l (scl (6 - fs.length) x2)).2 = _
    unfold rpEnd
    generalize scl (6 - fs.length) x2 = y at *
    generalize dval (dval 0 ds) fs * 10 ^ (6 - fs.length) = z at *
    unfold Tw at t3
    by_cases h7 : 1152921504606846976 < z
    · rw [if_pos h7, if_pos (by omega)]
    · rw [if_neg h7, if_neg (by omega)]
/-- What a decimal's shape consists of. -/
theorem shp_dec {l : List UInt8} (h : (shp l).1 = 3) : ∃ ds fs, l.take (shp l).2 = ds ++ 46 :: fs ∧ ds ≠ [] ∧ fs ≠ [] ∧ (∀ c ∈ ds, isD c = true) ∧ ∀ c ∈ fs, isD c = true := by
  cases l with
  | nil => cases h
  | cons c r =>
    rw [shp_cons] at h ⊢
    split at h
    · cases h
    · rename_i hl
      split at h
      · rename_i hd
        split at h
        · cases h
        · rename_i hp
          rw [if_neg hl, if_pos hd, if_neg hp]
          cases hy : (c :: r).drop (run isD (c :: r)) with
          | nil => rw [hy] at hp; exact absurd rfl hp
          | cons d y =>
            rw [hy, pnt_cons] at hp
            rw [pnt_cons]
            split at hp
            · rename_i h46
              have hd46 : d = 46 := UInt8.toNat_inj.1 h46
              subst hd46
              refine ⟨(c :: r).take (run isD (c :: r)), y.take (run isD y), ?_, ?_, ?_, run_all _ _, run_all _ _⟩
              · rw [if_pos h46]
                show (c :: r).take (run isD (c :: r) + 1 + run isD y) = _
                rw [show run isD (c :: r) + 1 + run isD y = run isD (c :: r) + (run isD y + 1) by omega, List.take_add, hy, List.take_succ_cons]
              · rw [run_cons hd]
                simp
              · intro e
                have := congrArg List.length e
                rw [List.length_take, List.length_nil] at this
                have := run_le isD y
                omega
            · exact absurd rfl hp
      · split at h
        · cases h
        · rw [sgn_cons] at h
          split at h
          · cases h
          · split at h <;> cases h
/-- Where a shape is a decimal, both say the same of it. -/
theorem dec_same {l : List UInt8} (h : (shp l).1 = 3) : (rpP (l.take (shp l).2)).2 = paE (l.take (shp l).2) := by
  obtain ⟨ds, fs, e, h1, h2, h3, h4⟩ := shp_dec h
  rw [e, rp_dec h1 h2 h3 h4, pa_dec h1 h2 h3 h4]
/-- strconv.Atoi of digits. -/
theorem uint_any : ∀ (l : List UInt8) (a : Nat), (∀ c ∈ l, isD c = true) → a < 18446744073709551616 → Lib.parseUint10 a l = if dval a l < 18446744073709551616 then .ok (dval a l) else .range
  | [], a, _, ha => by
    show Lib.NumEnd.ok a = if a < _ then _ else _
    rw [if_pos ha]
    rfl
  | c :: l, a, h, ha => by
    have hc := (isD_iff c).1 (h c (List.mem_cons_self ..))
    have hg := dval_ge l (a * 10 + (c.toNat - 48))
    rw [dval_cons]
    unfold Lib.parseUint10
    rw [if_pos hc]
    by_cases h1 : 1844674407370955162 ≤ a
    · rw [if_pos h1, if_neg (by omega)]
    · rw [if_neg h1]
      by_cases h2 : 18446744073709551616 ≤ a * 10 + (c.toNat - 48)
      · rw [if_pos h2, if_neg (by omega)]
      · rw [if_neg h2, uint_any l _ (fun d hd => h d (List.mem_cons_of_mem _ hd)) (by omega)]
theorem atoi_digits {l : List UInt8} (h0 : l ≠ []) (h : ∀ c ∈ l, isD c = true) : Lib.atoiAll l = if dval 0 l < 9223372036854775808 then .ok (dval 0 l : Nat) else .range := by
  cases l with
  | nil => exact absurd rfl h0
  | cons c r =>
    have hc := (isD_iff c).1 (h c (List.mem_cons_self ..))
    rw [Lib.atoiAll_plain c r (by omega) (by omega)]
    unfold Lib.parseMag
    rw [if_neg (by simp), uint_any _ 0 h (by omega)]
    by_cases h1 : dval 0 (c :: r) < 18446744073709551616
    · rw [if_pos h1]
      unfold Lib.signless
      by_cases h2 : dval 0 (c :: r) < 9223372036854775808
      · rw [if_pos h2]
        simp only
        rw [if_neg (by omega)]
      · rw [if_neg h2]
        simp only
        rw [if_pos (by omega)]
    · rw [if_neg h1, if_neg (by omega)]
      rfl
theorem shp_int {l : List UInt8} (h : shp l = (2, l.length)) : l ≠ [] ∧ ∀ c ∈ l, isD c = true := by
  cases l with
  | nil => cases (Prod.mk.inj h).1
  | cons c r =>
    refine ⟨by simp, ?_⟩
    rw [shp_cons] at h
    split at h
    · cases (Prod.mk.inj h).1
    · split at h
      · split at h
        · have e := (Prod.mk.inj h).2
          have := run_all isD (c :: r)
          rw [e, List.take_length] at this
          exact this
        · cases (Prod.mk.inj h).1
      · split at h
        · cases (Prod.mk.inj h).1
        · rw [sgn_cons] at h
          split at h
          · cases (Prod.mk.inj h).1
          · split at h <;> cases (Prod.mk.inj h).1
end Go.Proofs.YtkfciilclfhabaaGreatDoor
